/- CanonTells walked: whatever heap and roots, it answers true. -/
import Derived.Test.YtododpdkbdndoaaFX6
import Derived.Test.YtododpdkbdndoaaRO
import Derived.Test.YtododpdkbdndoaaN
namespace Go.Proofs.Ytododpdkbdndoaa
open Go.RowKit
set_option maxRecDepth 100000
theorem cnh_fit (h : Hp) (rs : List Int) : (cnH h rs).Fit := by
  obtain ⟨h1, h2⟩ := cn_fit h rs
  exact ⟨by omega, fun o ho => by have := h2 o ho; show o.slots.length ≤ _; omega⟩
theorem cnl_le (h : Hp) (rs : List Int) : (cnL h rs).length ≤ rs.length := by
  unfold cnL; split <;> simp
set_option maxHeartbeats 1500000 in
theorem ctells_any (h : Hp) (rs : List Int) (A : Option Addr) (c : Nat) (R : Option Addr) (d : Nat) (w : World) (hs : ObsR w A h.objs) (fit : h.Fit) (hr : IntsR w R rs) (hl : rs.length ≤ 9223372036854775807) :
    Calls Try.prog 9 #[.agg #[.slice A h.objs.length c, .int .i64 h.cap, .int .i64 h.last], .slice R rs.length d] w fun e w' => e = .returned (.bool true) ∧ Below w.heap.size w w' := by
  have HB0 := hid (below_alloc w (.cells #[Value.slice A h.objs.length c, Value.int .i64 h.cap, Value.int .i64 h.last] 24))
  have X0 := hid (Lies.new w 24 #[Value.slice A h.objs.length c, Value.int .i64 h.cap, Value.int .i64 h.last])
  have O0 := hid (hs.below HB0.out)
  have R0 := hid (hr.below HB0.out)
  have HF := hid fit
  have hfl := fit.1
  clear hs fit hr
  go_enter Try.func9, Try.ntmps9
  go_wp2_with fail
  refine (small_ok h A c _ O0.out HF.out).mono ?_
  rintro e w1 ⟨sm, rfl, hb⟩
  have HB1 := hid (HB0.out.trans (hb.mono HB0.out.size))
  have X1 := hid (X0.out.later hb)
  have O1 := hid (O0.out.below hb)
  have R1 := hid (R0.out.below hb)
  clear hb
  have x0 := X1.out.cell 0
  have x1 := X1.out.cell 1
  have x2 := X1.out.cell 2
  simp only [List.getElem?_toArray, List.getElem?_cons_zero, List.getElem?_cons_succ] at x0 x1 x2
  cases sm
  · go_wp2_with fail
    refine (fixed6_any _).mono ?_
    rintro e w2 ⟨rfl, hb⟩
    have HB2 := hid (HB1.out.trans (hb.mono HB1.out.size))
    have X2 := hid (X1.out.later hb)
    have O2 := hid (O1.out.below hb)
    have R2 := hid (R1.out.below hb)
    clear x0 x1 x2
    clear hb
    have x0 := X2.out.cell 0
    have x1 := X2.out.cell 1
    have x2 := X2.out.cell 2
    simp only [List.getElem?_toArray, List.getElem?_cons_zero, List.getElem?_cons_succ] at x0 x1 x2
    go_wp2_with fail
    go_ret
    exact ⟨rfl, HB2.out⟩
  · by_cases q1 : 40 < h.objs.length
    · go_wp2_with fail
      refine (fixed6_any _).mono ?_
      rintro e w2 ⟨rfl, hb⟩
      have HB2 := hid (HB1.out.trans (hb.mono HB1.out.size))
      have X2 := hid (X1.out.later hb)
      have O2 := hid (O1.out.below hb)
      have R2 := hid (R1.out.below hb)
      clear x0 x1 x2
      clear hb
      have x0 := X2.out.cell 0
      have x1 := X2.out.cell 1
      have x2 := X2.out.cell 2
      simp only [List.getElem?_toArray, List.getElem?_cons_zero, List.getElem?_cons_succ] at x0 x1 x2
      go_wp2_with fail
      go_ret
      exact ⟨rfl, HB2.out⟩
    · by_cases q2 : 100 < rs.length
      · go_wp2_with fail
        refine (fixed6_any _).mono ?_
        rintro e w2 ⟨rfl, hb⟩
        have HB2 := hid (HB1.out.trans (hb.mono HB1.out.size))
        have X2 := hid (X1.out.later hb)
        have O2 := hid (O1.out.below hb)
        have R2 := hid (R1.out.below hb)
        clear x0 x1 x2
        clear hb
        have x0 := X2.out.cell 0
        have x1 := X2.out.cell 1
        have x2 := X2.out.cell 2
        simp only [List.getElem?_toArray, List.getElem?_cons_zero, List.getElem?_cons_succ] at x0 x1 x2
        go_wp2_with fail
        go_ret
        exact ⟨rfl, HB2.out⟩
      · have KF := hid (cnh_fit h rs)
        have hkl := cnl_le h rs
        obtain ⟨k, hk⟩ : ∃ k, k = cnH h rs := ⟨_, rfl⟩
        obtain ⟨L, hL⟩ : ∃ L, L = cnL h rs := ⟨_, rfl⟩
        rw [← hk] at KF
        rw [← hL] at hkl
        have HQk := hid hk
        have HQL := hid hL
        clear hk hL
        obtain ⟨en, hen⟩ : ∃ en, en = liE h rs := ⟨_, rfl⟩
        have HQen := hid hen
        clear hen
        go_wp2_with fail
        refine (of_any h rs A R c d _ O1.out HF.out R1.out (by omega)).mono ?_
        rintro e w2 ⟨A2, c2, P2, d2, rfl, ho, hi, hb⟩
        rw [← HQen.out, ← HQk.out, ← HQL.out]
        rw [← HQk.out] at ho
        rw [← HQL.out] at hi
        have HAL := hid (below_alloc w2 (.cells #[Value.slice A2 k.objs.length c2, Value.int .i64 k.cap, Value.int .i64 k.last] 24))
        have HB2 := hid ((HB1.out.trans (hb.mono HB1.out.size)).trans (HAL.out.mono (Nat.le_trans HB1.out.size hb.size)))
        have X2 := hid ((X1.out.later hb).later HAL.out)
        have O2 := hid ((O1.out.below hb).below HAL.out)
        have R2 := hid ((R1.out.below hb).below HAL.out)
        have G2 := hid (Lies.new w2 24 #[Value.slice A2 k.objs.length c2, Value.int .i64 k.cap, Value.int .i64 k.last])
        have OK2 := hid (ho.below HAL.out)
        have LL2 := hid (hi.below HAL.out)
        clear x0 x1 x2
        clear hb
        clear ho hi HAL
        have x0 := X2.out.cell 0
        have x1 := X2.out.cell 1
        have x2 := X2.out.cell 2
        have g0 := G2.out.cell 0
        have g1 := G2.out.cell 1
        have g2 := G2.out.cell 2
        simp only [List.getElem?_toArray, List.getElem?_cons_zero, List.getElem?_cons_succ] at x0 x1 x2 g0 g1 g2
        go_wp2_with fail
        refine (rof_any h rs A R c d _ O2.out HF.out R2.out (by omega)).mono ?_
        rintro e w3 ⟨A3, c3, P3, d3, rfl, ho, hi, hb⟩
        rw [← HQen.out, ← HQk.out, ← HQL.out]
        rw [← HQk.out] at ho
        rw [← HQL.out] at hi
        have HAL := hid (below_alloc w3 (.cells #[Value.slice A3 k.objs.length c3, Value.int .i64 k.cap, Value.int .i64 k.last] 24))
        have HB3 := hid ((HB2.out.trans (hb.mono HB2.out.size)).trans (HAL.out.mono (Nat.le_trans HB2.out.size hb.size)))
        have X3 := hid ((X2.out.later hb).later HAL.out)
        have G3 := hid ((G2.out.later hb).later HAL.out)
        have O3 := hid ((O2.out.below hb).below HAL.out)
        have R3 := hid ((R2.out.below hb).below HAL.out)
        have OK3 := hid ((OK2.out.below hb).below HAL.out)
        have LL3 := hid ((LL2.out.below hb).below HAL.out)
        have H3 := hid (Lies.new w3 24 #[Value.slice A3 k.objs.length c3, Value.int .i64 k.cap, Value.int .i64 k.last])
        have OL3 := hid (ho.below HAL.out)
        have LM3 := hid (hi.below HAL.out)
        clear x0 x1 x2 g0 g1 g2
        clear hb
        clear ho hi HAL
        have x0 := X3.out.cell 0
        have x1 := X3.out.cell 1
        have x2 := X3.out.cell 2
        have g0 := G3.out.cell 0
        have g1 := G3.out.cell 1
        have g2 := G3.out.cell 2
        have k0 := H3.out.cell 0
        have k1 := H3.out.cell 1
        have k2 := H3.out.cell 2
        simp only [List.getElem?_toArray, List.getElem?_cons_zero, List.getElem?_cons_succ] at x0 x1 x2 g0 g1 g2 k0 k1 k2
        go_wp2_with fail
        refine (fixed6_any _).mono ?_
        rintro e w4 ⟨rfl, hb⟩
        have HB4 := hid (HB3.out.trans (hb.mono HB3.out.size))
        have X4 := hid (X3.out.later hb)
        have G4 := hid (G3.out.later hb)
        have H4 := hid (H3.out.later hb)
        have O4 := hid (O3.out.below hb)
        have R4 := hid (R3.out.below hb)
        have OK4 := hid (OK3.out.below hb)
        have LL4 := hid (LL3.out.below hb)
        have OL4 := hid (OL3.out.below hb)
        have LM4 := hid (LM3.out.below hb)
        clear x0 x1 x2 g0 g1 g2 k0 k1 k2
        clear hb
        have x0 := X4.out.cell 0
        have x1 := X4.out.cell 1
        have x2 := X4.out.cell 2
        have g0 := G4.out.cell 0
        have g1 := G4.out.cell 1
        have g2 := G4.out.cell 2
        have k0 := H4.out.cell 0
        have k1 := H4.out.cell 1
        have k2 := H4.out.cell 2
        simp only [List.getElem?_toArray, List.getElem?_cons_zero, List.getElem?_cons_succ] at x0 x1 x2 g0 g1 g2 k0 k1 k2
        go_wp2_with fail
        refine (same_any k A2 A3 c2 c3 _ OK4.out OL4.out KF.out).mono ?_
        rintro e w5 ⟨rfl, hb⟩
        have HB5 := hid (HB4.out.trans (hb.mono HB4.out.size))
        have X5 := hid (X4.out.later hb)
        have G5 := hid (G4.out.later hb)
        have H5 := hid (H4.out.later hb)
        have O5 := hid (O4.out.below hb)
        have R5 := hid (R4.out.below hb)
        have OK5 := hid (OK4.out.below hb)
        have LL5 := hid (LL4.out.below hb)
        have OL5 := hid (OL4.out.below hb)
        have LM5 := hid (LM4.out.below hb)
        clear x0 x1 x2 g0 g1 g2 k0 k1 k2
        clear hb
        have x0 := X5.out.cell 0
        have x1 := X5.out.cell 1
        have x2 := X5.out.cell 2
        have g0 := G5.out.cell 0
        have g1 := G5.out.cell 1
        have g2 := G5.out.cell 2
        have k0 := H5.out.cell 0
        have k1 := H5.out.cell 1
        have k2 := H5.out.cell 2
        simp only [List.getElem?_toArray, List.getElem?_cons_zero, List.getElem?_cons_succ] at x0 x1 x2 g0 g1 g2 k0 k1 k2
        go_wp2_with fail
        refine (ints6 (rfl : L = L) P2 P3 d2 d3 _ LL5.out LM5.out (by omega)).mono ?_
        rintro e w6 ⟨rfl, hb⟩
        have HB6 := hid (HB5.out.trans (hb.mono HB5.out.size))
        have X6 := hid (X5.out.later hb)
        have G6 := hid (G5.out.later hb)
        have H6 := hid (H5.out.later hb)
        have O6 := hid (O5.out.below hb)
        have R6 := hid (R5.out.below hb)
        have OK6 := hid (OK5.out.below hb)
        have LL6 := hid (LL5.out.below hb)
        have OL6 := hid (OL5.out.below hb)
        have LM6 := hid (LM5.out.below hb)
        clear x0 x1 x2 g0 g1 g2 k0 k1 k2
        clear hb
        have x0 := X6.out.cell 0
        have x1 := X6.out.cell 1
        have x2 := X6.out.cell 2
        have g0 := G6.out.cell 0
        have g1 := G6.out.cell 1
        have g2 := G6.out.cell 2
        have k0 := H6.out.cell 0
        have k1 := H6.out.cell 1
        have k2 := H6.out.cell 2
        simp only [List.getElem?_toArray, List.getElem?_cons_zero, List.getElem?_cons_succ] at x0 x1 x2 g0 g1 g2 k0 k1 k2
        go_wp2_with fail
        go_ret
        exact ⟨rfl, HB6.out⟩
end Go.Proofs.Ytododpdkbdndoaa
