/- MoveWhole walked: whatever heap and roots, it answers true. -/
import Derived.Test.YtelljlmjhnjpiaaVG
import Derived.Test.YtelljlmjhnjpiaaNL
import Derived.Test.YtelljlmjhnjpiaaR
import Derived.Test.YtelljlmjhnjpiaaN
import Derived.Test.YtelljlmjhnjpiaaMB
namespace Go.Proofs.Ytelljlmjhnjpiaa
open Go.RowKit
set_option maxRecDepth 100000
set_option maxHeartbeats 1500000 in
theorem whole_any (h : Hp) (rs : List Int) (A : Option Addr) (c : Nat) (R : Option Addr) (d : Nat) (w : World) (hs : ObsR w A h.objs) (fit : h.Fit) (hr : IntsR w R rs) (hl : rs.length ≤ 9223372036854775807) :
    Calls Try.prog 10 #[.agg #[.slice A h.objs.length c, .int .i64 h.cap, .int .i64 h.last], .slice R rs.length d] w fun e w' => e = .returned (.bool true) ∧ Below w.heap.size w w' := by
  have HB0 := hid (below_alloc w (.cells #[Value.slice A h.objs.length c, Value.int .i64 h.cap, Value.int .i64 h.last] 24))
  have X0 := hid (Lies.new w 24 #[Value.slice A h.objs.length c, Value.int .i64 h.cap, Value.int .i64 h.last])
  have O0 := hid (hs.below HB0.out)
  have R0 := hid (hr.below HB0.out)
  have HF := hid fit
  have hfl := fit.1
  clear hs fit hr
  go_enter Try.func10, Try.ntmps10
  go_wp2_with fail
  refine (fixed5_any _).mono ?_
  rintro e w1 ⟨rfl, hb⟩
  have HB1 := hid (HB0.out.trans (hb.mono HB0.out.size))
  have X1 := hid (X0.out.later hb)
  have O1 := hid (O0.out.below hb)
  have R1 := hid (R0.out.below hb)
  clear hb
  have x0 := X1.out.cell 0
  have x1 := X1.out.cell 1
  have x2 := X1.out.cell 2
  simp only [List.getElem?_toArray, List.getElem?_cons_zero, List.getElem?_cons_succ] at x0 x1 x2
  go_wp2_with fail
  refine (small_ok h A c _ O1.out HF.out).mono ?_
  rintro e w2 ⟨sm, rfl, hb⟩
  have HB2 := hid (HB1.out.trans (hb.mono HB1.out.size))
  have X2 := hid (X1.out.later hb)
  have O2 := hid (O1.out.below hb)
  have R2 := hid (R1.out.below hb)
  clear x0 x1 x2
  clear hb
  have x0 := X2.out.cell 0
  have x1 := X2.out.cell 1
  have x2 := X2.out.cell 2
  simp only [List.getElem?_toArray, List.getElem?_cons_zero, List.getElem?_cons_succ] at x0 x1 x2
  cases sm
  · go_wp2_with fail
    refine (fixed5_any _).mono ?_
    rintro e w3 ⟨rfl, hb⟩
    have HB3 := hid (HB2.out.trans (hb.mono HB2.out.size))
    have X3 := hid (X2.out.later hb)
    have O3 := hid (O2.out.below hb)
    have R3 := hid (R2.out.below hb)
    clear x0 x1 x2
    clear hb
    have x0 := X3.out.cell 0
    have x1 := X3.out.cell 1
    have x2 := X3.out.cell 2
    simp only [List.getElem?_toArray, List.getElem?_cons_zero, List.getElem?_cons_succ] at x0 x1 x2
    go_wp2_with fail
    go_ret
    exact ⟨rfl, HB3.out⟩
  · go_wp2_with fail
    refine (rmay_any h A c _ O2.out HF.out).mono ?_
    rintro e w3 ⟨rfl, hb⟩
    have HB3 := hid (HB2.out.trans (hb.mono HB2.out.size))
    have X3 := hid (X2.out.later hb)
    have O3 := hid (O2.out.below hb)
    have R3 := hid (R2.out.below hb)
    clear x0 x1 x2
    clear hb
    have x0 := X3.out.cell 0
    have x1 := X3.out.cell 1
    have x2 := X3.out.cell 2
    simp only [List.getElem?_toArray, List.getElem?_cons_zero, List.getElem?_cons_succ] at x0 x1 x2
    cases hm : mayB h
    · go_wp2_with fail
      refine (fixed5_any _).mono ?_
      rintro e w4 ⟨rfl, hb⟩
      have HB4 := hid (HB3.out.trans (hb.mono HB3.out.size))
      have X4 := hid (X3.out.later hb)
      have O4 := hid (O3.out.below hb)
      have R4 := hid (R3.out.below hb)
      clear x0 x1 x2
      clear hb
      have x0 := X4.out.cell 0
      have x1 := X4.out.cell 1
      have x2 := X4.out.cell 2
      simp only [List.getElem?_toArray, List.getElem?_cons_zero, List.getElem?_cons_succ] at x0 x1 x2
      go_wp2_with fail
      go_ret
      exact ⟨rfl, HB4.out⟩
    · have HM := hid hm
      clear hm
      by_cases c1 : 40 < h.objs.length
      · go_wp2_with fail
        refine (fixed5_any _).mono ?_
        rintro e w4 ⟨rfl, hb⟩
        have HB4 := hid (HB3.out.trans (hb.mono HB3.out.size))
        have X4 := hid (X3.out.later hb)
        have O4 := hid (O3.out.below hb)
        have R4 := hid (R3.out.below hb)
        clear x0 x1 x2
        clear hb
        have x0 := X4.out.cell 0
        have x1 := X4.out.cell 1
        have x2 := X4.out.cell 2
        simp only [List.getElem?_toArray, List.getElem?_cons_zero, List.getElem?_cons_succ] at x0 x1 x2
        go_wp2_with fail
        go_ret
        exact ⟨rfl, HB4.out⟩
      · by_cases c2 : 100 < rs.length
        · go_wp2_with fail
          refine (fixed5_any _).mono ?_
          rintro e w4 ⟨rfl, hb⟩
          have HB4 := hid (HB3.out.trans (hb.mono HB3.out.size))
          have X4 := hid (X3.out.later hb)
          have O4 := hid (O3.out.below hb)
          have R4 := hid (R3.out.below hb)
          clear x0 x1 x2
          clear hb
          have x0 := X4.out.cell 0
          have x1 := X4.out.cell 1
          have x2 := X4.out.cell 2
          simp only [List.getElem?_toArray, List.getElem?_cons_zero, List.getElem?_cons_succ] at x0 x1 x2
          go_wp2_with fail
          go_ret
          exact ⟨rfl, HB4.out⟩
        · by_cases he : liE h rs = 0
          · have KM := hid (co_may he)
            have KE := hid (co_liE he)
            have KL := hid (co_live he)
            have KA := hid (co_again he)
            have hkl := coL_le h rs
            have KF := hid (may_fit (co_may he))
            have hk256 := may_len (co_may he)
            obtain ⟨k, hk⟩ : ∃ k, k = coH h rs := ⟨_, rfl⟩
            obtain ⟨L, hL⟩ : ∃ L, L = coL h rs := ⟨_, rfl⟩
            rw [← hk, ← hL] at KE KL KA
            rw [← hk] at KM KF hk256
            rw [← hL] at hkl
            go_wp2_with fail
            refine (compact_any h rs A R c d _ O3.out HF.out R3.out (by omega)).mono ?_
            rintro e w4 ⟨A4, c4, P4, d4, rfl, ho, hi, hb⟩
            rw [he, ← hk, ← hL]
            rw [← hk] at ho
            rw [← hL] at hi
            have HAL := hid (below_alloc w4 (.cells #[Value.slice A4 k.objs.length c4, Value.int .i64 k.cap, Value.int .i64 k.last] 24))
            have HB4 := hid ((HB3.out.trans (hb.mono HB3.out.size)).trans (HAL.out.mono (Nat.le_trans HB3.out.size hb.size)))
            have X4 := hid ((X3.out.later hb).later HAL.out)
            have O4 := hid ((O3.out.below hb).below HAL.out)
            have R4 := hid ((R3.out.below hb).below HAL.out)
            have G4 := hid (Lies.new w4 24 #[Value.slice A4 k.objs.length c4, Value.int .i64 k.cap, Value.int .i64 k.last])
            have OK4 := hid (ho.below HAL.out)
            have LL4 := hid (hi.below HAL.out)
            clear x0 x1 x2
            clear hb
            clear ho hi hk hL he HAL
            have x0 := X4.out.cell 0
            have x1 := X4.out.cell 1
            have x2 := X4.out.cell 2
            have g0 := G4.out.cell 0
            have g1 := G4.out.cell 1
            have g2 := G4.out.cell 2
            simp only [List.getElem?_toArray, List.getElem?_cons_zero, List.getElem?_cons_succ] at x0 x1 x2 g0 g1 g2
            go_wp2_with fail
            refine (rlive_any k L A4 P4 c4 d4 _ OK4.out KF.out LL4.out (by omega)).mono ?_
            rintro e w5 ⟨A5, c5, rfl, -, -, -, hb⟩
            rw [KE.out, KL.out]
            have HB5 := hid (HB4.out.trans (hb.mono HB4.out.size))
            have X5 := hid (X4.out.later hb)
            have G5 := hid (G4.out.later hb)
            have O5 := hid (O4.out.below hb)
            have R5 := hid (R4.out.below hb)
            have OK5 := hid (OK4.out.below hb)
            have LL5 := hid (LL4.out.below hb)
            clear x0 x1 x2 g0 g1 g2
            clear hb
            have x0 := X5.out.cell 0
            have x1 := X5.out.cell 1
            have x2 := X5.out.cell 2
            have g0 := G5.out.cell 0
            have g1 := G5.out.cell 1
            have g2 := G5.out.cell 2
            simp only [List.getElem?_toArray, List.getElem?_cons_zero, List.getElem?_cons_succ] at x0 x1 x2 g0 g1 g2
            go_wp2_with fail
            refine (compact_any k L A4 P4 c4 d4 _ OK5.out KF.out LL5.out (by omega)).mono ?_
            rintro e w6 ⟨A6, c6, P6, d6, rfl, ho, hi, hb⟩
            rw [KE.out, KA.out.1, KA.out.2]
            rw [KA.out.1] at ho
            rw [KA.out.2] at hi
            have HAL := hid (below_alloc w6 (.cells #[Value.slice A6 k.objs.length c6, Value.int .i64 k.cap, Value.int .i64 k.last] 24))
            have HB6 := hid ((HB5.out.trans (hb.mono HB5.out.size)).trans (HAL.out.mono (Nat.le_trans HB5.out.size hb.size)))
            have X6 := hid ((X5.out.later hb).later HAL.out)
            have G6 := hid ((G5.out.later hb).later HAL.out)
            have O6 := hid ((O5.out.below hb).below HAL.out)
            have R6 := hid ((R5.out.below hb).below HAL.out)
            have OK6 := hid ((OK5.out.below hb).below HAL.out)
            have LL6 := hid ((LL5.out.below hb).below HAL.out)
            have H6 := hid (Lies.new w6 24 #[Value.slice A6 k.objs.length c6, Value.int .i64 k.cap, Value.int .i64 k.last])
            have OL6 := hid (ho.below HAL.out)
            have LM6 := hid (hi.below HAL.out)
            clear x0 x1 x2 g0 g1 g2
            clear hb
            clear ho hi HAL
            have x0 := X6.out.cell 0
            have x1 := X6.out.cell 1
            have x2 := X6.out.cell 2
            have g0 := G6.out.cell 0
            have g1 := G6.out.cell 1
            have g2 := G6.out.cell 2
            have k0 := H6.out.cell 0
            have k1 := H6.out.cell 1
            have k2 := H6.out.cell 2
            simp only [List.getElem?_toArray, List.getElem?_cons_zero, List.getElem?_cons_succ] at x0 x1 x2 g0 g1 g2 k0 k1 k2
            go_wp2_with fail
            refine (rmay_any k A4 c4 _ OK6.out KF.out).mono ?_
            rintro e w7 ⟨rfl, hb⟩
            rw [KM.out]
            have HB7 := hid (HB6.out.trans (hb.mono HB6.out.size))
            have X7 := hid (X6.out.later hb)
            have G7 := hid (G6.out.later hb)
            have H7 := hid (H6.out.later hb)
            have O7 := hid (O6.out.below hb)
            have R7 := hid (R6.out.below hb)
            have OK7 := hid (OK6.out.below hb)
            have LL7 := hid (LL6.out.below hb)
            have OL7 := hid (OL6.out.below hb)
            have LM7 := hid (LM6.out.below hb)
            clear x0 x1 x2 g0 g1 g2 k0 k1 k2
            clear hb
            have x0 := X7.out.cell 0
            have x1 := X7.out.cell 1
            have x2 := X7.out.cell 2
            have g0 := G7.out.cell 0
            have g1 := G7.out.cell 1
            have g2 := G7.out.cell 2
            have k0 := H7.out.cell 0
            have k1 := H7.out.cell 1
            have k2 := H7.out.cell 2
            simp only [List.getElem?_toArray, List.getElem?_cons_zero, List.getElem?_cons_succ] at x0 x1 x2 g0 g1 g2 k0 k1 k2
            go_wp2_with fail
            refine (same_any k A4 A6 c4 c6 _ OK7.out OL7.out KF.out).mono ?_
            rintro e w8 ⟨rfl, hb⟩
            have HB8 := hid (HB7.out.trans (hb.mono HB7.out.size))
            have X8 := hid (X7.out.later hb)
            have G8 := hid (G7.out.later hb)
            have H8 := hid (H7.out.later hb)
            have O8 := hid (O7.out.below hb)
            have R8 := hid (R7.out.below hb)
            have OK8 := hid (OK7.out.below hb)
            have LL8 := hid (LL7.out.below hb)
            have OL8 := hid (OL7.out.below hb)
            have LM8 := hid (LM7.out.below hb)
            clear x0 x1 x2 g0 g1 g2 k0 k1 k2
            clear hb
            have x0 := X8.out.cell 0
            have x1 := X8.out.cell 1
            have x2 := X8.out.cell 2
            have g0 := G8.out.cell 0
            have g1 := G8.out.cell 1
            have g2 := G8.out.cell 2
            have k0 := H8.out.cell 0
            have k1 := H8.out.cell 1
            have k2 := H8.out.cell 2
            simp only [List.getElem?_toArray, List.getElem?_cons_zero, List.getElem?_cons_succ] at x0 x1 x2 g0 g1 g2 k0 k1 k2
            go_wp2_with fail
            refine (ints5 (rfl : L = L) P4 P6 d4 d6 _ LL8.out LM8.out (by omega)).mono ?_
            rintro e w9 ⟨rfl, hb⟩
            have HB9 := hid (HB8.out.trans (hb.mono HB8.out.size))
            have X9 := hid (X8.out.later hb)
            have G9 := hid (G8.out.later hb)
            have H9 := hid (H8.out.later hb)
            have O9 := hid (O8.out.below hb)
            have R9 := hid (R8.out.below hb)
            have OK9 := hid (OK8.out.below hb)
            have LL9 := hid (LL8.out.below hb)
            have OL9 := hid (OL8.out.below hb)
            have LM9 := hid (LM8.out.below hb)
            clear x0 x1 x2 g0 g1 g2 k0 k1 k2
            clear hb
            have x0 := X9.out.cell 0
            have x1 := X9.out.cell 1
            have x2 := X9.out.cell 2
            have g0 := G9.out.cell 0
            have g1 := G9.out.cell 1
            have g2 := G9.out.cell 2
            have k0 := H9.out.cell 0
            have k1 := H9.out.cell 1
            have k2 := H9.out.cell 2
            simp only [List.getElem?_toArray, List.getElem?_cons_zero, List.getElem?_cons_succ] at x0 x1 x2 g0 g1 g2 k0 k1 k2
            go_wp2_with fail
            go_ret
            exact ⟨rfl, HB9.out⟩
          · have hne : (liE h rs != 0) = true := by simpa using he
            have E1 := hid (coH_no he)
            have E2 := hid (coL_no he)
            obtain ⟨en, hen⟩ : ∃ en, en = liE h rs := ⟨_, rfl⟩
            rw [← hen] at hne
            go_wp2_with fail
            refine (compact_any h rs A R c d _ O3.out HF.out R3.out (by omega)).mono ?_
            rintro e w4 ⟨A4, c4, P4, d4, rfl, ho, hi, hb⟩
            rw [← hen, E1.out, E2.out]
            rw [E1.out] at ho
            have HAL := hid (below_alloc w4 (.cells #[Value.slice A4 zeroH.objs.length c4, Value.int .i64 zeroH.cap, Value.int .i64 zeroH.last] 24))
            have HB4 := hid ((HB3.out.trans (hb.mono HB3.out.size)).trans (HAL.out.mono (Nat.le_trans HB3.out.size hb.size)))
            have X4 := hid ((X3.out.later hb).later HAL.out)
            have O4 := hid ((O3.out.below hb).below HAL.out)
            have R4 := hid ((R3.out.below hb).below HAL.out)
            have G4 := hid (Lies.new w4 24 #[Value.slice A4 zeroH.objs.length c4, Value.int .i64 zeroH.cap, Value.int .i64 zeroH.last])
            have OK4 := hid (ho.below HAL.out)
            clear x0 x1 x2
            clear hb
            clear ho hi hen he HAL
            have x0 := X4.out.cell 0
            have x1 := X4.out.cell 1
            have x2 := X4.out.cell 2
            have g0 := G4.out.cell 0
            have g1 := G4.out.cell 1
            have g2 := G4.out.cell 2
            simp only [List.getElem?_toArray, List.getElem?_cons_zero, List.getElem?_cons_succ] at x0 x1 x2 g0 g1 g2
            go_wp2_with fail
            refine (same_any zeroH A4 none c4 0 _ OK4.out (ObsR.nil _) fitZ).mono ?_
            rintro e w5 ⟨rfl, hb⟩
            have HB5 := hid (HB4.out.trans (hb.mono HB4.out.size))
            have X5 := hid (X4.out.later hb)
            have G5 := hid (G4.out.later hb)
            have O5 := hid (O4.out.below hb)
            have R5 := hid (R4.out.below hb)
            have OK5 := hid (OK4.out.below hb)
            clear x0 x1 x2 g0 g1 g2
            clear hb
            have x0 := X5.out.cell 0
            have x1 := X5.out.cell 1
            have x2 := X5.out.cell 2
            have g0 := G5.out.cell 0
            have g1 := G5.out.cell 1
            have g2 := G5.out.cell 2
            simp only [List.getElem?_toArray, List.getElem?_cons_zero, List.getElem?_cons_succ] at x0 x1 x2 g0 g1 g2
            go_wp2_with fail
            go_ret
            exact ⟨rfl, HB5.out⟩
end Go.Proofs.Ytelljlmjhnjpiaa
