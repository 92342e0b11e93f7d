/- SnapBack walked: whatever heap, roots and bytes, it answers true. -/
import Derived.Test.YthggafdfglojaaaKI8
import Derived.Test.YthggafdfglojaaaMP
import Derived.Test.YthggafdfglojaaaS
namespace Go.Proofs.Ythggafdfglojaaa
open Go.RowKit
set_option maxRecDepth 100000
set_option maxHeartbeats 3000000 in
theorem back8_any (h : Hp) (rs : List Int) (s : ByteArray) (A : Option Addr) (c : Nat) (R : Option Addr) (d : Nat) (w : World) (hs : ObsR w A h.objs) (fit : h.Fit) (hwd : h.Wd) (hr : IntsR w R rs) (hl : rs.length ≤ 9223372036854775807) (hsl : s.size ≤ 9223372036854775807) :
    Calls Try.prog 10 #[.agg #[.slice A h.objs.length c, .int .i64 h.cap, .int .i64 h.last], .slice R rs.length d, .string s] w fun e w' => e = .returned (.bool true) ∧ Below w.heap.size w w' := by
  obtain ⟨l, rfl⟩ : ∃ l, s = str l := ⟨_, (str_list s).symm⟩
  have hsz := str_size l
  rw [hsz] at hsl
  have HB0 := hid (below_alloc w (.cells #[Value.slice A h.objs.length c, Value.int .i64 h.cap, Value.int .i64 h.last] 24))
  have X0 := hid (Lies.new w 24 #[Value.slice A h.objs.length c, Value.int .i64 h.cap, Value.int .i64 h.last])
  have O0 := hid (hs.below HB0.out)
  have R0 := hid (hr.below HB0.out)
  have HF := hid fit
  have HWD := hid hwd
  clear hs fit hr hwd
  go_enter Try.func10, Try.ntmps10
  have x0 := X0.out.cell 0
  have x1 := X0.out.cell 1
  have x2 := X0.out.cell 2
  simp only [List.getElem?_toArray, List.getElem?_cons_zero, List.getElem?_cons_succ] at x0 x1 x2
  go_wp2_with fail
  refine (fixed8_any _).mono ?_
  rintro e w1 ⟨rfl, hb⟩
  have HB1 := hid (HB0.out.trans (hb.mono HB0.out.size))
  have X1 := hid (X0.out.later hb)
  have O1 := hid (O0.out.below hb)
  have R1 := hid (R0.out.below hb)
  clear x0 x1 x2
  clear hb
  have x0 := X1.out.cell 0
  have x1 := X1.out.cell 1
  have x2 := X1.out.cell 2
  simp only [List.getElem?_toArray, List.getElem?_cons_zero, List.getElem?_cons_succ] at x0 x1 x2
  go_wp2_with fail
  refine (small_ok h A c _ O1.out HF.out).mono ?_
  rintro e w2 ⟨sm, rfl, hb⟩
  have HB2 := hid (HB1.out.trans (hb.mono HB1.out.size))
  have X2 := hid (X1.out.later hb)
  have O2 := hid (O1.out.below hb)
  have R2 := hid (R1.out.below hb)
  clear x0 x1 x2
  clear hb
  have x0 := X2.out.cell 0
  have x1 := X2.out.cell 1
  have x2 := X2.out.cell 2
  simp only [List.getElem?_toArray, List.getElem?_cons_zero, List.getElem?_cons_succ] at x0 x1 x2
  cases sm
  · go_wp2_with fail
    refine (fixed8_any _).mono ?_
    rintro e w3 ⟨rfl, hb⟩
    have HB3 := hid (HB2.out.trans (hb.mono HB2.out.size))
    have X3 := hid (X2.out.later hb)
    have O3 := hid (O2.out.below hb)
    have R3 := hid (R2.out.below hb)
    clear x0 x1 x2
    clear hb
    have x0 := X3.out.cell 0
    have x1 := X3.out.cell 1
    have x2 := X3.out.cell 2
    simp only [List.getElem?_toArray, List.getElem?_cons_zero, List.getElem?_cons_succ] at x0 x1 x2
    go_wp2_with fail
    go_ret
    exact ⟨rfl, HB3.out⟩
  · by_cases q1 : 100 < rs.length
    · go_wp2_with fail
      refine (fixed8_any _).mono ?_
      rintro e w3 ⟨rfl, hb⟩
      have HB3 := hid (HB2.out.trans (hb.mono HB2.out.size))
      have X3 := hid (X2.out.later hb)
      have O3 := hid (O2.out.below hb)
      have R3 := hid (R2.out.below hb)
      clear x0 x1 x2
      clear hb
      have x0 := X3.out.cell 0
      have x1 := X3.out.cell 1
      have x2 := X3.out.cell 2
      simp only [List.getElem?_toArray, List.getElem?_cons_zero, List.getElem?_cons_succ] at x0 x1 x2
      go_wp2_with fail
      go_ret
      exact ⟨rfl, HB3.out⟩
    · by_cases q2 : (3000 : Int) < l.length
      · go_wp2_with fail
        refine (fixed8_any _).mono ?_
        rintro e w3 ⟨rfl, hb⟩
        have HB3 := hid (HB2.out.trans (hb.mono HB2.out.size))
        have X3 := hid (X2.out.later hb)
        have O3 := hid (O2.out.below hb)
        have R3 := hid (R2.out.below hb)
        clear x0 x1 x2
        clear hb
        have x0 := X3.out.cell 0
        have x1 := X3.out.cell 1
        have x2 := X3.out.cell 2
        simp only [List.getElem?_toArray, List.getElem?_cons_zero, List.getElem?_cons_succ] at x0 x1 x2
        go_wp2_with fail
        go_ret
        exact ⟨rfl, HB3.out⟩
      · have hl3 : l.length ≤ 3000 := by omega
        have HL3 := hid hl3
        by_cases hq : deE l = 0
        · obtain ⟨e1, e2⟩ := dec_enc hq
          obtain ⟨k, hk⟩ : ∃ k, k = deH l := ⟨_, rfl⟩
          obtain ⟨L, hL⟩ : ∃ L, L = deL l := ⟨_, rfl⟩
          rw [← hk, ← hL] at e1 e2
          obtain ⟨kf, kl⟩ := may_fit8 e2
          have HD := hid (And.intro hq (And.intro hk.symm hL.symm))
          have HE1 := hid e1
          have HE2 := hid e2
          have HKF := hid kf
          clear hq hk hL e1 e2 kf
          go_wp2_with fail
          refine (dec_full8 (k := k) (L := L) HD.out.1 HD.out.2.1 HD.out.2.2 (by have := HL3.out; omega) _).mono ?_
          rintro e w3 ⟨A3, c3, P3, d3, rfl, ho, hi, hb⟩
          have HAL := hid (below_alloc w3 (.cells #[Value.slice A3 k.objs.length c3, Value.int .i64 k.cap, Value.int .i64 k.last] 24))
          have HB3 := hid ((HB2.out.trans (hb.mono HB2.out.size)).trans (HAL.out.mono (Nat.le_trans HB2.out.size hb.size)))
          have X3 := hid ((X2.out.later hb).later HAL.out)
          have O3 := hid ((O2.out.below hb).below HAL.out)
          have R3 := hid ((R2.out.below hb).below HAL.out)
          have G3 := hid (Lies.new w3 24 #[Value.slice A3 k.objs.length c3, Value.int .i64 k.cap, Value.int .i64 k.last])
          have OK3 := hid (ho.below HAL.out)
          have LK3 := hid (hi.below HAL.out)
          clear x0 x1 x2
          clear hb
          clear ho hi HAL
          have x0 := X3.out.cell 0
          have x1 := X3.out.cell 1
          have x2 := X3.out.cell 2
          have g0 := G3.out.cell 0
          have g1 := G3.out.cell 1
          have g2 := G3.out.cell 2
          simp only [List.getElem?_toArray, List.getElem?_cons_zero, List.getElem?_cons_succ] at x0 x1 x2 g0 g1 g2
          go_wp2_with fail
          refine (rmay_any8 k L A3 P3 c3 d3 _ OK3.out HKF.out LK3.out (by omega)).mono ?_
          rintro e w4 ⟨rfl, hb⟩
          rw [HE2.out]
          have HB4 := hid (HB3.out.trans (hb.mono HB3.out.size))
          have X4 := hid (X3.out.later hb)
          have G4 := hid (G3.out.later hb)
          have O4 := hid (O3.out.below hb)
          have R4 := hid (R3.out.below hb)
          have OK4 := hid (OK3.out.below hb)
          have LK4 := hid (LK3.out.below hb)
          clear x0 x1 x2 g0 g1 g2
          clear hb
          have x0 := X4.out.cell 0
          have x1 := X4.out.cell 1
          have x2 := X4.out.cell 2
          have g0 := G4.out.cell 0
          have g1 := G4.out.cell 1
          have g2 := G4.out.cell 2
          simp only [List.getElem?_toArray, List.getElem?_cons_zero, List.getElem?_cons_succ] at x0 x1 x2 g0 g1 g2
          go_wp2_with fail
          refine (enc_any8 k L A3 P3 c3 d3 _ OK4.out HKF.out LK4.out (by omega)).mono ?_
          rintro e w5 ⟨rfl, hb⟩
          rw [HE1.out]
          have HB5 := hid (HB4.out.trans (hb.mono HB4.out.size))
          have X5 := hid (X4.out.later hb)
          have G5 := hid (G4.out.later hb)
          have O5 := hid (O4.out.below hb)
          have R5 := hid (R4.out.below hb)
          have OK5 := hid (OK4.out.below hb)
          have LK5 := hid (LK4.out.below hb)
          clear x0 x1 x2 g0 g1 g2
          clear hb
          have x0 := X5.out.cell 0
          have x1 := X5.out.cell 1
          have x2 := X5.out.cell 2
          have g0 := G5.out.cell 0
          have g1 := G5.out.cell 1
          have g2 := G5.out.cell 2
          simp only [List.getElem?_toArray, List.getElem?_cons_zero, List.getElem?_cons_succ] at x0 x1 x2 g0 g1 g2
          clear HD HE1 HE2 kl
          clear x0 x1 x2 g0 g1 g2
          have x0 := X5.out.cell 0
          have x1 := X5.out.cell 1
          have x2 := X5.out.cell 2
          simp only [List.getElem?_toArray, List.getElem?_cons_zero, List.getElem?_cons_succ] at x0 x1 x2
          cases hm : mayR h rs
          · have HM := hid hm
            have HE : Hid (encE h rs = []) := enc_no (by rw [hm]; decide)
            have y0 : str [] = ⟨#[]⟩ := rfl
            clear hm
            go_wp2_with fail
            refine (enc_any8 h rs A R c d _ O5.out HF.out R5.out hl).mono ?_
            rintro e w6 ⟨rfl, hb⟩
            rw [HE.out]
            have HB6 := hid (HB5.out.trans (hb.mono HB5.out.size))
            have X6 := hid (X5.out.later hb)
            have O6 := hid (O5.out.below hb)
            have R6 := hid (R5.out.below hb)
            clear x0 x1 x2
            clear hb
            have x0 := X6.out.cell 0
            have x1 := X6.out.cell 1
            have x2 := X6.out.cell 2
            simp only [List.getElem?_toArray, List.getElem?_cons_zero, List.getElem?_cons_succ] at x0 x1 x2
            go_wp2_with fail
            refine (rmay_any8 h rs A R c d _ O6.out HF.out R6.out hl).mono ?_
            rintro e w7 ⟨rfl, hb⟩
            rw [HM.out]
            have HB7 := hid (HB6.out.trans (hb.mono HB6.out.size))
            have X7 := hid (X6.out.later hb)
            have O7 := hid (O6.out.below hb)
            have R7 := hid (R6.out.below hb)
            clear x0 x1 x2
            clear hb
            have x0 := X7.out.cell 0
            have x1 := X7.out.cell 1
            have x2 := X7.out.cell 2
            simp only [List.getElem?_toArray, List.getElem?_cons_zero, List.getElem?_cons_succ] at x0 x1 x2
            go_wp2_with fail
            go_ret
            exact ⟨rfl, HB7.out⟩
          · have HM := hid hm
            obtain ⟨e0, e1, e2⟩ := enc_dec hm HWD.out
            obtain ⟨E, hE⟩ : ∃ E, E = encE h rs := ⟨_, rfl⟩
            have hne : E ≠ [] := by rw [hE]; exact enc_ne hm
            have hlen : E.length ≤ 100000 := by rw [hE]; exact enc_len8 h rs
            rw [← hE] at e0 e1 e2
            have HE := hid hE
            have HD := hid (And.intro e0 (And.intro e1 e2))
            have HLE := hid hlen
            have g1 : (str E).toList.isEmpty = false := str_full8 hne
            clear hm hE hne hlen e0 e1 e2
            go_wp2_with fail
            refine (enc_any8 h rs A R c d _ O5.out HF.out R5.out hl).mono ?_
            rintro e w6 ⟨rfl, hb⟩
            rw [← HE.out]
            have HB6 := hid (HB5.out.trans (hb.mono HB5.out.size))
            have X6 := hid (X5.out.later hb)
            have O6 := hid (O5.out.below hb)
            have R6 := hid (R5.out.below hb)
            clear x0 x1 x2
            clear hb
            have x0 := X6.out.cell 0
            have x1 := X6.out.cell 1
            have x2 := X6.out.cell 2
            simp only [List.getElem?_toArray, List.getElem?_cons_zero, List.getElem?_cons_succ] at x0 x1 x2
            go_wp2_with fail
            refine (dec_full8 (k := h) (L := rs) HD.out.1 HD.out.2.1 HD.out.2.2 HLE.out _).mono ?_
            rintro e w7 ⟨A7, c7, P7, d7, rfl, ho, hi, hb⟩
            have HAL := hid (below_alloc w7 (.cells #[Value.slice A7 h.objs.length c7, Value.int .i64 h.cap, Value.int .i64 h.last] 24))
            have HB7 := hid ((HB6.out.trans (hb.mono HB6.out.size)).trans (HAL.out.mono (Nat.le_trans HB6.out.size hb.size)))
            have X7 := hid ((X6.out.later hb).later HAL.out)
            have O7 := hid ((O6.out.below hb).below HAL.out)
            have R7 := hid ((R6.out.below hb).below HAL.out)
            have V7 := hid (Lies.new w7 24 #[Value.slice A7 h.objs.length c7, Value.int .i64 h.cap, Value.int .i64 h.last])
            have OV7 := hid (ho.below HAL.out)
            have LV7 := hid (hi.below HAL.out)
            clear x0 x1 x2
            clear hb
            clear ho hi HAL
            have x0 := X7.out.cell 0
            have x1 := X7.out.cell 1
            have x2 := X7.out.cell 2
            have v0 := V7.out.cell 0
            have v1 := V7.out.cell 1
            have v2 := V7.out.cell 2
            simp only [List.getElem?_toArray, List.getElem?_cons_zero, List.getElem?_cons_succ] at x0 x1 x2 v0 v1 v2
            go_wp2_with fail
            refine (same_any h A7 A c7 c _ OV7.out O7.out HF.out).mono ?_
            rintro e w8 ⟨rfl, hb⟩
            have HB8 := hid (HB7.out.trans (hb.mono HB7.out.size))
            have X8 := hid (X7.out.later hb)
            have V8 := hid (V7.out.later hb)
            have O8 := hid (O7.out.below hb)
            have R8 := hid (R7.out.below hb)
            have OV8 := hid (OV7.out.below hb)
            have LV8 := hid (LV7.out.below hb)
            clear x0 x1 x2 v0 v1 v2
            clear hb
            have x0 := X8.out.cell 0
            have x1 := X8.out.cell 1
            have x2 := X8.out.cell 2
            have v0 := V8.out.cell 0
            have v1 := V8.out.cell 1
            have v2 := V8.out.cell 2
            simp only [List.getElem?_toArray, List.getElem?_cons_zero, List.getElem?_cons_succ] at x0 x1 x2 v0 v1 v2
            go_wp2_with fail
            refine (rints_any rs rs P7 R d7 d _ LV8.out R8.out hl).mono ?_
            rintro e w9 ⟨rfl, hb⟩
            rw [decide_eq_true rfl]
            have HB9 := hid (HB8.out.trans (hb.mono HB8.out.size))
            have X9 := hid (X8.out.later hb)
            have V9 := hid (V8.out.later hb)
            have O9 := hid (O8.out.below hb)
            have R9 := hid (R8.out.below hb)
            have OV9 := hid (OV8.out.below hb)
            have LV9 := hid (LV8.out.below hb)
            clear x0 x1 x2 v0 v1 v2
            clear hb
            have x0 := X9.out.cell 0
            have x1 := X9.out.cell 1
            have x2 := X9.out.cell 2
            have v0 := V9.out.cell 0
            have v1 := V9.out.cell 1
            have v2 := V9.out.cell 2
            simp only [List.getElem?_toArray, List.getElem?_cons_zero, List.getElem?_cons_succ] at x0 x1 x2 v0 v1 v2
            go_wp2_with fail
            go_ret
            exact ⟨rfl, HB9.out⟩
        · obtain ⟨en, hen⟩ : ∃ en, en = deE l := ⟨_, rfl⟩
          rw [← hen] at hq
          have HEN := hid hen.symm
          have hq2 : (en == 0) = false := beq_eq_false_iff_ne.2 hq
          have HNE := hid hq
          clear hen
          go_wp2_with fail
          refine (dec_zero8 HEN.out HNE.out (by have := HL3.out; omega) _).mono ?_
          rintro e w3 ⟨A3, c3, P3, d3, rfl, hb⟩
          have HAL := hid (below_alloc w3 (.cells #[.slice A3 0 c3, .int .i64 0, .int .i64 0] 24))
          have HB3 := hid ((HB2.out.trans (hb.mono HB2.out.size)).trans (HAL.out.mono (Nat.le_trans HB2.out.size hb.size)))
          have X3 := hid ((X2.out.later hb).later HAL.out)
          have O3 := hid ((O2.out.below hb).below HAL.out)
          have R3 := hid ((R2.out.below hb).below HAL.out)
          have Z3 := hid (Lies.new w3 24 #[.slice A3 0 c3, .int .i64 0, .int .i64 0])
          clear x0 x1 x2
          clear hb
          clear HAL
          have x0 := X3.out.cell 0
          have x1 := X3.out.cell 1
          have x2 := X3.out.cell 2
          have z0 := Z3.out.cell 0
          have z1 := Z3.out.cell 1
          have z2 := Z3.out.cell 2
          simp only [List.getElem?_toArray, List.getElem?_cons_zero, List.getElem?_cons_succ] at x0 x1 x2 z0 z1 z2
          go_wp2_with fail
          refine (same_any ⟨[], 0, 0⟩ A3 none c3 0 _ (obs_none _ _) (obs_none _ _) zero_fit8).mono ?_
          rintro e w4 ⟨rfl, hb⟩
          have HB4 := hid (HB3.out.trans (hb.mono HB3.out.size))
          have X4 := hid (X3.out.later hb)
          have Z4 := hid (Z3.out.later hb)
          have O4 := hid (O3.out.below hb)
          have R4 := hid (R3.out.below hb)
          clear x0 x1 x2 z0 z1 z2
          clear hb
          have x0 := X4.out.cell 0
          have x1 := X4.out.cell 1
          have x2 := X4.out.cell 2
          have z0 := Z4.out.cell 0
          have z1 := Z4.out.cell 1
          have z2 := Z4.out.cell 2
          simp only [List.getElem?_toArray, List.getElem?_cons_zero, List.getElem?_cons_succ] at x0 x1 x2 z0 z1 z2
          clear x0 x1 x2 z0 z1 z2
          have x0 := X4.out.cell 0
          have x1 := X4.out.cell 1
          have x2 := X4.out.cell 2
          simp only [List.getElem?_toArray, List.getElem?_cons_zero, List.getElem?_cons_succ] at x0 x1 x2
          cases hm : mayR h rs
          · have HM := hid hm
            have HE : Hid (encE h rs = []) := enc_no (by rw [hm]; decide)
            have y0 : str [] = ⟨#[]⟩ := rfl
            clear hm
            go_wp2_with fail
            refine (enc_any8 h rs A R c d _ O4.out HF.out R4.out hl).mono ?_
            rintro e w5 ⟨rfl, hb⟩
            rw [HE.out]
            have HB5 := hid (HB4.out.trans (hb.mono HB4.out.size))
            have X5 := hid (X4.out.later hb)
            have O5 := hid (O4.out.below hb)
            have R5 := hid (R4.out.below hb)
            clear x0 x1 x2
            clear hb
            have x0 := X5.out.cell 0
            have x1 := X5.out.cell 1
            have x2 := X5.out.cell 2
            simp only [List.getElem?_toArray, List.getElem?_cons_zero, List.getElem?_cons_succ] at x0 x1 x2
            go_wp2_with fail
            refine (rmay_any8 h rs A R c d _ O5.out HF.out R5.out hl).mono ?_
            rintro e w6 ⟨rfl, hb⟩
            rw [HM.out]
            have HB6 := hid (HB5.out.trans (hb.mono HB5.out.size))
            have X6 := hid (X5.out.later hb)
            have O6 := hid (O5.out.below hb)
            have R6 := hid (R5.out.below hb)
            clear x0 x1 x2
            clear hb
            have x0 := X6.out.cell 0
            have x1 := X6.out.cell 1
            have x2 := X6.out.cell 2
            simp only [List.getElem?_toArray, List.getElem?_cons_zero, List.getElem?_cons_succ] at x0 x1 x2
            go_wp2_with fail
            go_ret
            exact ⟨rfl, HB6.out⟩
          · have HM := hid hm
            obtain ⟨e0, e1, e2⟩ := enc_dec hm HWD.out
            obtain ⟨E, hE⟩ : ∃ E, E = encE h rs := ⟨_, rfl⟩
            have hne : E ≠ [] := by rw [hE]; exact enc_ne hm
            have hlen : E.length ≤ 100000 := by rw [hE]; exact enc_len8 h rs
            rw [← hE] at e0 e1 e2
            have HE := hid hE
            have HD := hid (And.intro e0 (And.intro e1 e2))
            have HLE := hid hlen
            have g1 : (str E).toList.isEmpty = false := str_full8 hne
            clear hm hE hne hlen e0 e1 e2
            go_wp2_with fail
            refine (enc_any8 h rs A R c d _ O4.out HF.out R4.out hl).mono ?_
            rintro e w5 ⟨rfl, hb⟩
            rw [← HE.out]
            have HB5 := hid (HB4.out.trans (hb.mono HB4.out.size))
            have X5 := hid (X4.out.later hb)
            have O5 := hid (O4.out.below hb)
            have R5 := hid (R4.out.below hb)
            clear x0 x1 x2
            clear hb
            have x0 := X5.out.cell 0
            have x1 := X5.out.cell 1
            have x2 := X5.out.cell 2
            simp only [List.getElem?_toArray, List.getElem?_cons_zero, List.getElem?_cons_succ] at x0 x1 x2
            go_wp2_with fail
            refine (dec_full8 (k := h) (L := rs) HD.out.1 HD.out.2.1 HD.out.2.2 HLE.out _).mono ?_
            rintro e w6 ⟨A6, c6, P6, d6, rfl, ho, hi, hb⟩
            have HAL := hid (below_alloc w6 (.cells #[Value.slice A6 h.objs.length c6, Value.int .i64 h.cap, Value.int .i64 h.last] 24))
            have HB6 := hid ((HB5.out.trans (hb.mono HB5.out.size)).trans (HAL.out.mono (Nat.le_trans HB5.out.size hb.size)))
            have X6 := hid ((X5.out.later hb).later HAL.out)
            have O6 := hid ((O5.out.below hb).below HAL.out)
            have R6 := hid ((R5.out.below hb).below HAL.out)
            have V6 := hid (Lies.new w6 24 #[Value.slice A6 h.objs.length c6, Value.int .i64 h.cap, Value.int .i64 h.last])
            have OV6 := hid (ho.below HAL.out)
            have LV6 := hid (hi.below HAL.out)
            clear x0 x1 x2
            clear hb
            clear ho hi HAL
            have x0 := X6.out.cell 0
            have x1 := X6.out.cell 1
            have x2 := X6.out.cell 2
            have v0 := V6.out.cell 0
            have v1 := V6.out.cell 1
            have v2 := V6.out.cell 2
            simp only [List.getElem?_toArray, List.getElem?_cons_zero, List.getElem?_cons_succ] at x0 x1 x2 v0 v1 v2
            go_wp2_with fail
            refine (same_any h A6 A c6 c _ OV6.out O6.out HF.out).mono ?_
            rintro e w7 ⟨rfl, hb⟩
            have HB7 := hid (HB6.out.trans (hb.mono HB6.out.size))
            have X7 := hid (X6.out.later hb)
            have V7 := hid (V6.out.later hb)
            have O7 := hid (O6.out.below hb)
            have R7 := hid (R6.out.below hb)
            have OV7 := hid (OV6.out.below hb)
            have LV7 := hid (LV6.out.below hb)
            clear x0 x1 x2 v0 v1 v2
            clear hb
            have x0 := X7.out.cell 0
            have x1 := X7.out.cell 1
            have x2 := X7.out.cell 2
            have v0 := V7.out.cell 0
            have v1 := V7.out.cell 1
            have v2 := V7.out.cell 2
            simp only [List.getElem?_toArray, List.getElem?_cons_zero, List.getElem?_cons_succ] at x0 x1 x2 v0 v1 v2
            go_wp2_with fail
            refine (rints_any rs rs P6 R d6 d _ LV7.out R7.out hl).mono ?_
            rintro e w8 ⟨rfl, hb⟩
            rw [decide_eq_true rfl]
            have HB8 := hid (HB7.out.trans (hb.mono HB7.out.size))
            have X8 := hid (X7.out.later hb)
            have V8 := hid (V7.out.later hb)
            have O8 := hid (O7.out.below hb)
            have R8 := hid (R7.out.below hb)
            have OV8 := hid (OV7.out.below hb)
            have LV8 := hid (LV7.out.below hb)
            clear x0 x1 x2 v0 v1 v2
            clear hb
            have x0 := X8.out.cell 0
            have x1 := X8.out.cell 1
            have x2 := X8.out.cell 2
            have v0 := V8.out.cell 0
            have v1 := V8.out.cell 1
            have v2 := V8.out.cell 2
            simp only [List.getElem?_toArray, List.getElem?_cons_zero, List.getElem?_cons_succ] at x0 x1 x2 v0 v1 v2
            go_wp2_with fail
            go_ret
            exact ⟨rfl, HB8.out⟩
end Go.Proofs.Ythggafdfglojaaa
