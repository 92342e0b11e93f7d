/- PrimWhole returns true: for every heap and every two whole numbers that the row lets in, on every machine; no further condition. (With it: the law walked.) -/
import Derived.Test.YtkpfmbdkfgeboaaGreatKP13
import Derived.Test.YtkpfmbdkfgeboaaGreatPX13
import Derived.Test.YtkpfmbdkfgeboaaGreatRows
import Derived.Test.YtkpfmbdkfgeboaaGreatOW13
import Derived.Test.YtkpfmbdkfgeboaaGreatLP
import Derived.ProofKit
import Derived.OpenShut
namespace Go.Proofs.YtkpfmbdkfgeboaaGreat
open Go.RowKit Flt
set_option maxRecDepth 100000
def inV13 (n : Int) : Int := if smB n then 2 * n + 1 else 0
theorem rint_any13 (n : Int) (w : World) : Calls Tryz.prog 16 #[.int .i64 n] w fun e w' => e = .returned (.tuple #[.int .i64 (inV13 n), .bool (smB n)]) ∧ w = w' := by
  have F : smB n = true ∧ inV13 n = 2 * n + 1 ∧ -1073741824 ≤ n ∧ n ≤ 1073741823 ∨ smB n = false ∧ inV13 n = 0 ∧ n < -1073741824 ∨ smB n = false ∧ inV13 n = 0 ∧ -1073741824 ≤ n ∧ 1073741823 < n := by
    cases h : smB n
    · have := smB_no.1 h; simp [inV13, h]; omega
    · have := smB_iff.1 h; simp [inV13, h]; omega
  rcases F with ⟨h, e, b1, b2⟩ | ⟨h, e, b1⟩ | ⟨h, e, b1, b2⟩
  all_goals
    rw [h, e]; clear h e
    go_enter Tryz.func16, Tryz.ntmps16
    go_wp2
    go_ret2; exact ⟨rfl, rfl⟩
theorem rint_w13 (n : Int) (w : World) : Calls Tryz.prog 16 #[.int .i64 n] w fun e w' => e = .returned (.tuple #[.int .i64 (inV13 n), .bool (smB n)]) ∧ Below w.heap.size w w' :=
  (rint_any13 n w).mono fun e w' ⟨h1, h2⟩ => ⟨h1, by subst h2; exact Below.refl _ _⟩
theorem rn_w13 (v : Int) (w : World) : Calls Tryz.prog 17 #[.int .i64 v] w fun e w' => e = .returned (.tuple #[.int .i64 (nV v), .bool (nB v)]) ∧ Below w.heap.size w w' :=
  (rn_any v w).mono fun e w' ⟨h1, h2⟩ => ⟨h1, by subst h2; exact Below.refl _ _⟩
set_option maxHeartbeats 4000000 in
theorem primwhole_any13 (h : Hp) (m n : Int) (A : Option Addr) (c : Nat) (w : World) (hs : ObsR w A h.objs) (fit : h.Fit) (wd : ∀ o ∈ h.objs, In64 o.bits) :
    Calls Tryz.prog 5 #[.agg #[.slice A h.objs.length c, .int .i64 h.cap, .int .i64 h.last], .int .i64 m, .int .i64 n] w fun e w' => e = .returned (.bool true) ∧ Below w.heap.size w w' := by
  obtain ⟨w0, hw0⟩ : ∃ w0, w0 = w.alloc (.cells #[Value.slice A h.objs.length c, Value.int .i64 h.cap, Value.int .i64 h.last] 24) := ⟨_, rfl⟩
  have HB0 : Hid (Below w.heap.size w w0) := by show Below _ _ _; rw [hw0]; exact below_alloc _ _
  have HX0 : Hid (Lies w0 w.heap.size 24 #[Value.slice A h.objs.length c, Value.int .i64 h.cap, Value.int .i64 h.last]) := by show Lies _ _ _ _; rw [hw0]; exact (Lies.new w _ _)
  have HS := hid hs
  have HF := hid fit
  have HWD := hid wd
  clear hs fit wd
  go_enter Tryz.func5, Tryz.ntmps5
  go_upto_region 1 with fail
  rw [← hw0]
  clear hw0
  go_wp2_with fail
  refine (fixed13_any _).mono ?_
  rintro e w1 ⟨rfl, hb⟩
  have HB1 := hid (then_w HB0.out hb)
  have HX1 := hid (HX0.out.later hb)
  clear hb
  clear HB0 HX0
  have x0 := HX1.out.cell 0
  have x1 := HX1.out.cell 1
  have x2 := HX1.out.cell 2
  simp only [List.getElem?_toArray, List.getElem?_cons_zero, List.getElem?_cons_succ] at x0 x1 x2
  go_wp2_with fail
  refine (small_ok h A c _ (HS.out.below HB1.out) HF.out).mono ?_
  rintro e w2 ⟨sb, rfl, hb⟩
  clear x0 x1 x2
  have HB2 := hid (then_w HB1.out hb)
  have HX2 := hid (HX1.out.later hb)
  clear hb
  clear HB1 HX1
  cases sb
  · have x0 := HX2.out.cell 0
    have x1 := HX2.out.cell 1
    have x2 := HX2.out.cell 2
    simp only [List.getElem?_toArray, List.getElem?_cons_zero, List.getElem?_cons_succ] at x0 x1 x2
    go_wp2_with fail
    refine (fixed13_any _).mono ?_
    rintro e w3 ⟨rfl, hb⟩
    clear x0 x1 x2
    have HB3 := hid (then_w HB2.out hb)
    have HX3 := hid (HX2.out.later hb)
    clear hb
    clear HB2 HX2
    go_wp2_with fail
    go_ret
    exact ⟨rfl, HB3.out⟩
  by_cases h60 : h.objs.length ≤ 60
  case neg =>
    have hI60 : (60 : Int) < (h.objs.length : Int) := by omega
    have hI12 : ¬ (h.objs.length : Int) < 12 := by omega
    have x0 := HX2.out.cell 0
    have x1 := HX2.out.cell 1
    have x2 := HX2.out.cell 2
    simp only [List.getElem?_toArray, List.getElem?_cons_zero, List.getElem?_cons_succ] at x0 x1 x2
    go_wp2_with fail
    refine (fixed13_any _).mono ?_
    rintro e w3 ⟨rfl, hb⟩
    clear x0 x1 x2
    have HB3 := hid (then_w HB2.out hb)
    have HX3 := hid (HX2.out.later hb)
    clear hb
    clear HB2 HX2
    go_wp2_with fail
    go_ret
    exact ⟨rfl, HB3.out⟩
  have hI60 : ¬ (60 : Int) < (h.objs.length : Int) := by omega
  by_cases h12 : 12 ≤ h.objs.length
  case neg =>
    have hI12 : (h.objs.length : Int) < 12 := by omega
    have x0 := HX2.out.cell 0
    have x1 := HX2.out.cell 1
    have x2 := HX2.out.cell 2
    simp only [List.getElem?_toArray, List.getElem?_cons_zero, List.getElem?_cons_succ] at x0 x1 x2
    go_wp2_with fail
    refine (fixed13_any _).mono ?_
    rintro e w3 ⟨rfl, hb⟩
    clear x0 x1 x2
    have HB3 := hid (then_w HB2.out hb)
    have HX3 := hid (HX2.out.later hb)
    clear hb
    clear HB2 HX2
    go_wp2_with fail
    go_ret
    exact ⟨rfl, HB3.out⟩
  have hI12 : ¬ (h.objs.length : Int) < 12 := by omega
  have H12 := hid h12
  have x0 := HX2.out.cell 0
  have x1 := HX2.out.cell 1
  have x2 := HX2.out.cell 2
  simp only [List.getElem?_toArray, List.getElem?_cons_zero, List.getElem?_cons_succ] at x0 x1 x2
  go_wp2_with fail
  refine (rmay_any h A c _ (HS.out.below HB2.out) HF.out).mono ?_
  rintro e w3 ⟨rfl, hb⟩
  clear x0 x1 x2
  have HB3 := hid (then_w HB2.out hb)
  have HX3 := hid (HX2.out.later hb)
  clear hb
  clear HB2 HX2
  cases hm : mayB h
  · clear hm
    have x0 := HX3.out.cell 0
    have x1 := HX3.out.cell 1
    have x2 := HX3.out.cell 2
    simp only [List.getElem?_toArray, List.getElem?_cons_zero, List.getElem?_cons_succ] at x0 x1 x2
    go_wp2_with fail
    refine (fixed13_any _).mono ?_
    rintro e w4 ⟨rfl, hb⟩
    clear x0 x1 x2
    have HB4 := hid (then_w HB3.out hb)
    have HX4 := hid (HX3.out.later hb)
    clear hb
    clear HB3 HX3
    go_wp2_with fail
    go_ret
    exact ⟨rfl, HB4.out⟩
  have HM := hid hm
  clear hm
  have x0 := HX3.out.cell 0
  have x1 := HX3.out.cell 1
  have x2 := HX3.out.cell 2
  simp only [List.getElem?_toArray, List.getElem?_cons_zero, List.getElem?_cons_succ] at x0 x1 x2
  go_wp2_with fail
  refine (rint_w13 m _).mono ?_
  rintro e w4 ⟨rfl, hb⟩
  clear x0 x1 x2
  have HB4 := hid (then_w HB3.out hb)
  have HX4 := hid (HX3.out.later hb)
  clear hb
  clear HB3 HX3
  clear hI60 hI12 h60 h12
  have x0 := HX4.out.cell 0
  have x1 := HX4.out.cell 1
  have x2 := HX4.out.cell 2
  simp only [List.getElem?_toArray, List.getElem?_cons_zero, List.getElem?_cons_succ] at x0 x1 x2
  go_wp2_with fail
  refine (rint_w13 n _).mono ?_
  rintro e w5 ⟨rfl, hb⟩
  clear x0 x1 x2
  have HB5 := hid (then_w HB4.out hb)
  have HX5 := hid (HX4.out.later hb)
  clear hb
  clear HB4 HX4
  cases s1 : smB m
  · have x0 := HX5.out.cell 0
    have x1 := HX5.out.cell 1
    have x2 := HX5.out.cell 2
    simp only [List.getElem?_toArray, List.getElem?_cons_zero, List.getElem?_cons_succ] at x0 x1 x2
    go_wp2_with fail
    go_ret
    exact ⟨rfl, HB5.out⟩
  cases s2 : smB n
  · have x0 := HX5.out.cell 0
    have x1 := HX5.out.cell 1
    have x2 := HX5.out.cell 2
    simp only [List.getElem?_toArray, List.getElem?_cons_zero, List.getElem?_cons_succ] at x0 x1 x2
    go_wp2_with fail
    go_ret
    exact ⟨rfl, HB5.out⟩
  rw [show inV13 m = 2 * m + 1 by unfold inV13; rw [if_pos s1], show inV13 n = 2 * n + 1 by unfold inV13; rw [if_pos s2]]
  have D := whl13 HM.out H12.out s1 s2
  have D1 := hid D.w1
  have D2 := hid D.w2
  have D4 := hid D.w4
  have D5 := hid D.w5
  have S1 := hid s1
  have S2 := hid s2
  have bm := smB_iff.1 s1
  have bn := smB_iff.1 s2
  have hw1 : IntKind.i64.wrap (m + n) = m + n := IntWalk.i64_in _ (by omega)
  have hw2 : IntKind.i64.wrap (2 * (m + n)) = 2 * (m + n) := IntWalk.i64_in _ (by omega)
  have hw3 : IntKind.i64.wrap (2 * (m + n) + 1) = 2 * (m + n) + 1 := IntWalk.i64_in _ (by omega)
  have HW := hid (And.intro hw1 (And.intro hw2 hw3))
  obtain ⟨a, ha⟩ : ∃ y, y = 2 * m + 1 := ⟨_, rfl⟩
  obtain ⟨b, hb9⟩ : ∃ y, y = 2 * n + 1 := ⟨_, rfl⟩
  rw [← ha] at D1 D2 D4 D5 ⊢
  rw [← hb9] at D1 D2 D4 D5 ⊢
  have HAA := hid ha
  have HBB := hid hb9
  clear D s1 s2 ha hb9 bm bn hw1 hw2 hw3
  cases s3 : smB (m + n)
  · have E1 : Hid (do13 h 1 a [b] = (h, 0, 130)) := by show _ = _; rw [D1.out]; unfold in13; rw [if_neg (by rw [s3]; decide)]; rfl
    have S3 := hid s3
    clear s3
    have x0 := HX5.out.cell 0
    have x1 := HX5.out.cell 1
    have x2 := HX5.out.cell 2
    simp only [List.getElem?_toArray, List.getElem?_cons_zero, List.getElem?_cons_succ] at x0 x1 x2
    go_wp2_with fail
    obtain ⟨w6, hw⟩ : ∃ y_, y_ = w5.alloc (.cells #[.int .i64 b] 3) := ⟨_, rfl⟩
    obtain ⟨b6, hbx⟩ : ∃ y_, y_ = w5.heap.size := ⟨_, rfl⟩
    have hb : Below w5.heap.size w5 w6 := by rw [hw]; exact below_alloc _ _
    have hl : Lies w6 b6 3 #[.int .i64 b] := by rw [hw, hbx]; exact Lies.new _ _ _
    rw [← hw, ← hbx]
    clear hw hbx
    clear x0 x1 x2
    have HB6 := hid (then_w HB5.out hb)
    have HX6 := hid (HX5.out.later hb)
    clear hb
    clear HB5 HX5
    refine (cdo_any13 h 1 a [b] (some ⟨b6, 0, none⟩) 1 A c _ (HS.out.below HB6.out) HF.out (lies_ints13 hl rfl) (by simp) HWD.out).mono ?_
    rintro e w7 ⟨A1, c1, rfl, -, hb⟩
    rw [E1.out]
    clear hl
    have HB7 := hid (then_w HB6.out hb)
    have HX7 := hid (HX6.out.later hb)
    clear hb
    clear HB6 HX6
    go_upto_region 8 with fail
    obtain ⟨w8, hw⟩ : ∃ x, x = w7.alloc (.cells #[.slice A1 h.objs.length c1, .int .i64 h.cap, .int .i64 h.last] 24) := ⟨_, rfl⟩
    have hb : Below w7.heap.size w7 w8 := by rw [hw]; exact below_alloc _ _
    rw [← hw]
    clear hw
    have HB8 := hid (then_w HB7.out hb)
    have HX8 := hid (HX7.out.later hb)
    clear hb
    clear HB7 HX7
    obtain ⟨hw1, hw2, hw3⟩ := HW.out
    have hr1 := smB_no.1 S3.out
    by_cases hlo : -1073741824 ≤ m + n
    case neg =>
      have x0 := HX8.out.cell 0
      have x1 := HX8.out.cell 1
      have x2 := HX8.out.cell 2
      simp only [List.getElem?_toArray, List.getElem?_cons_zero, List.getElem?_cons_succ] at x0 x1 x2
      go_upto_region 14 with fail
      clear x0 x1 x2
      by_cases h0 : n = 0
      case pos =>
        have E4 : Hid (do13 h 4 a [b] = (h, 0, 130)) := by show _ = _; rw [D4.out, if_pos h0]; rfl
        have E5 : Hid (do13 h 5 a [b] = (h, 0, 130)) := by show _ = _; rw [D5.out, if_pos h0]; rfl
        clear D4 D5
        have x0 := HX8.out.cell 0
        have x1 := HX8.out.cell 1
        have x2 := HX8.out.cell 2
        simp only [List.getElem?_toArray, List.getElem?_cons_zero, List.getElem?_cons_succ] at x0 x1 x2
        go_wp2_with fail
        obtain ⟨w9, hw⟩ : ∃ y_, y_ = w8.alloc (.cells #[.int .i64 b] 3) := ⟨_, rfl⟩
        obtain ⟨b9, hbx⟩ : ∃ y_, y_ = w8.heap.size := ⟨_, rfl⟩
        have hb : Below w8.heap.size w8 w9 := by rw [hw]; exact below_alloc _ _
        have hl : Lies w9 b9 3 #[.int .i64 b] := by rw [hw, hbx]; exact Lies.new _ _ _
        rw [← hw, ← hbx]
        clear hw hbx
        clear x0 x1 x2
        have HB9 := hid (then_w HB8.out hb)
        have HX9 := hid (HX8.out.later hb)
        clear hb
        clear HB8 HX8
        refine (cdo_any13 h 4 a [b] (some ⟨b9, 0, none⟩) 1 A c _ (HS.out.below HB9.out) HF.out (lies_ints13 hl rfl) (by simp) HWD.out).mono ?_
        rintro e w10 ⟨A4, c4, rfl, -, hb⟩
        rw [E4.out]
        clear hl
        have HB10 := hid (then_w HB9.out hb)
        have HX10 := hid (HX9.out.later hb)
        clear hb
        clear HB9 HX9
        go_upto_region 15 with fail
        obtain ⟨w11, hw⟩ : ∃ x, x = w10.alloc (.cells #[.slice A4 h.objs.length c4, .int .i64 h.cap, .int .i64 h.last] 24) := ⟨_, rfl⟩
        have hb : Below w10.heap.size w10 w11 := by rw [hw]; exact below_alloc _ _
        rw [← hw]
        clear hw
        have HB11 := hid (then_w HB10.out hb)
        have HX11 := hid (HX10.out.later hb)
        clear hb
        clear HB10 HX10
        have x0 := HX11.out.cell 0
        have x1 := HX11.out.cell 1
        have x2 := HX11.out.cell 2
        simp only [List.getElem?_toArray, List.getElem?_cons_zero, List.getElem?_cons_succ] at x0 x1 x2
        go_wp2_with fail
        obtain ⟨w12, hw⟩ : ∃ y_, y_ = w11.alloc (.cells #[.int .i64 b] 3) := ⟨_, rfl⟩
        obtain ⟨b12, hbx⟩ : ∃ y_, y_ = w11.heap.size := ⟨_, rfl⟩
        have hb : Below w11.heap.size w11 w12 := by rw [hw]; exact below_alloc _ _
        have hl : Lies w12 b12 3 #[.int .i64 b] := by rw [hw, hbx]; exact Lies.new _ _ _
        rw [← hw, ← hbx]
        clear hw hbx
        clear x0 x1 x2
        have HB12 := hid (then_w HB11.out hb)
        have HX12 := hid (HX11.out.later hb)
        clear hb
        clear HB11 HX11
        refine (cdo_any13 h 5 a [b] (some ⟨b12, 0, none⟩) 1 A c _ (HS.out.below HB12.out) HF.out (lies_ints13 hl rfl) (by simp) HWD.out).mono ?_
        rintro e w13 ⟨A5, c5, rfl, -, hb⟩
        rw [E5.out]
        clear hl
        have HB13 := hid (then_w HB12.out hb)
        have HX13 := hid (HX12.out.later hb)
        clear hb
        clear HB12 HX12
        go_upto_region 16 with fail
        obtain ⟨w14, hw⟩ : ∃ x, x = w13.alloc (.cells #[.slice A5 h.objs.length c5, .int .i64 h.cap, .int .i64 h.last] 24) := ⟨_, rfl⟩
        have hb : Below w13.heap.size w13 w14 := by rw [hw]; exact below_alloc _ _
        rw [← hw]
        clear hw
        have HB14 := hid (then_w HB13.out hb)
        have HX14 := hid (HX13.out.later hb)
        clear hb
        clear HB13 HX13
        have x0 := HX14.out.cell 0
        have x1 := HX14.out.cell 1
        have x2 := HX14.out.cell 2
        simp only [List.getElem?_toArray, List.getElem?_cons_zero, List.getElem?_cons_succ] at x0 x1 x2
        go_wp2_with fail
        go_ret
        exact ⟨rfl, HB14.out⟩
      have r5 := rest_sm13 S2.out h0 (m := m)
      obtain ⟨re, rp, rn⟩ := rest13 (m := m) h0
      have hbd := rest_bd13 (smB_iff.1 S1.out) (smB_iff.1 S2.out) h0
      obtain ⟨n1, n2, -⟩ := sm_num13 r5
      have N2 := hid n2
      have hqm := fun g => quot_sm13 S1.out S2.out h0 g (m := m)
      rw [if_neg h0] at D4 D5
      obtain ⟨q, hq9⟩ : ∃ y, y = m.fdiv n := ⟨_, rfl⟩
      have HQ9 := hid hq9
      rw [← hq9] at D4 D5 re rp rn hbd N2 r5 hqm
      obtain ⟨r, hr9⟩ : ∃ y, y = m - n * q := ⟨_, rfl⟩
      rw [← hr9] at D5 re rp rn N2 r5
      have HR9 := hid hr9
      have HRE := hid re
      have HRP := hid rp
      have HRN := hid rn
      have HBD := hid hbd
      have HQM := hid hqm
      have E5 : Hid (do13 h 5 a [b] = (h, 2 * r + 1, 0)) := by show _ = _; rw [D5.out]; unfold in13; rw [if_pos r5]
      clear D5 re rp rn hbd hq9 hr9 n1 n2 r5 hqm
      have H0 := hid h0
      cases hq : smB q
      · have HMN := hid (HQM.out hq)
        have E4 : Hid (do13 h 4 a [b] = (h, 0, 130)) := by show _ = _; rw [D4.out]; unfold in13; rw [if_neg (by rw [hq]; decide)]; rfl
        clear D4 hq
        have x0 := HX8.out.cell 0
        have x1 := HX8.out.cell 1
        have x2 := HX8.out.cell 2
        simp only [List.getElem?_toArray, List.getElem?_cons_zero, List.getElem?_cons_succ] at x0 x1 x2
        go_wp2_with fail
        obtain ⟨w9, hw⟩ : ∃ y_, y_ = w8.alloc (.cells #[.int .i64 b] 3) := ⟨_, rfl⟩
        obtain ⟨b9, hbx⟩ : ∃ y_, y_ = w8.heap.size := ⟨_, rfl⟩
        have hb : Below w8.heap.size w8 w9 := by rw [hw]; exact below_alloc _ _
        have hl : Lies w9 b9 3 #[.int .i64 b] := by rw [hw, hbx]; exact Lies.new _ _ _
        rw [← hw, ← hbx]
        clear hw hbx
        clear x0 x1 x2
        have HB9 := hid (then_w HB8.out hb)
        have HX9 := hid (HX8.out.later hb)
        clear hb
        clear HB8 HX8
        refine (cdo_any13 h 4 a [b] (some ⟨b9, 0, none⟩) 1 A c _ (HS.out.below HB9.out) HF.out (lies_ints13 hl rfl) (by simp) HWD.out).mono ?_
        rintro e w10 ⟨A4, c4, rfl, -, hb⟩
        rw [E4.out]
        clear hl
        have HB10 := hid (then_w HB9.out hb)
        have HX10 := hid (HX9.out.later hb)
        clear hb
        clear HB9 HX9
        go_upto_region 15 with fail
        obtain ⟨w11, hw⟩ : ∃ x, x = w10.alloc (.cells #[.slice A4 h.objs.length c4, .int .i64 h.cap, .int .i64 h.last] 24) := ⟨_, rfl⟩
        have hb : Below w10.heap.size w10 w11 := by rw [hw]; exact below_alloc _ _
        rw [← hw]
        clear hw
        have HB11 := hid (then_w HB10.out hb)
        have HX11 := hid (HX10.out.later hb)
        clear hb
        clear HB10 HX10
        have x0 := HX11.out.cell 0
        have x1 := HX11.out.cell 1
        have x2 := HX11.out.cell 2
        simp only [List.getElem?_toArray, List.getElem?_cons_zero, List.getElem?_cons_succ] at x0 x1 x2
        go_wp2_with fail
        obtain ⟨w12, hw⟩ : ∃ y_, y_ = w11.alloc (.cells #[.int .i64 b] 3) := ⟨_, rfl⟩
        obtain ⟨b12, hbx⟩ : ∃ y_, y_ = w11.heap.size := ⟨_, rfl⟩
        have hb : Below w11.heap.size w11 w12 := by rw [hw]; exact below_alloc _ _
        have hl : Lies w12 b12 3 #[.int .i64 b] := by rw [hw, hbx]; exact Lies.new _ _ _
        rw [← hw, ← hbx]
        clear hw hbx
        clear x0 x1 x2
        have HB12 := hid (then_w HB11.out hb)
        have HX12 := hid (HX11.out.later hb)
        clear hb
        clear HB11 HX11
        refine (cdo_any13 h 5 a [b] (some ⟨b12, 0, none⟩) 1 A c _ (HS.out.below HB12.out) HF.out (lies_ints13 hl rfl) (by simp) HWD.out).mono ?_
        rintro e w13 ⟨A5, c5, rfl, -, hb⟩
        rw [E5.out]
        clear hl
        have HB13 := hid (then_w HB12.out hb)
        have HX13 := hid (HX12.out.later hb)
        clear hb
        clear HB12 HX12
        go_upto_region 16 with fail
        obtain ⟨w14, hw⟩ : ∃ x, x = w13.alloc (.cells #[.slice A5 h.objs.length c5, .int .i64 h.cap, .int .i64 h.last] 24) := ⟨_, rfl⟩
        have hb : Below w13.heap.size w13 w14 := by rw [hw]; exact below_alloc _ _
        rw [← hw]
        clear hw
        have HB14 := hid (then_w HB13.out hb)
        have HX14 := hid (HX13.out.later hb)
        clear hb
        clear HB13 HX13
        obtain ⟨hm9, hn9⟩ := HMN.out
        have h0 := H0.out
        have x0 := HX14.out.cell 0
        have x1 := HX14.out.cell 1
        have x2 := HX14.out.cell 2
        simp only [List.getElem?_toArray, List.getElem?_cons_zero, List.getElem?_cons_succ] at x0 x1 x2
        go_wp2_with fail
        go_ret
        exact ⟨rfl, HB14.out⟩
      have E4 : Hid (do13 h 4 a [b] = (h, 2 * q + 1, 0)) := by show _ = _; rw [D4.out]; unfold in13; rw [if_pos hq]
      have NQ := hid (sm_num13 hq).2.1
      clear D4 hq
      have x0 := HX8.out.cell 0
      have x1 := HX8.out.cell 1
      have x2 := HX8.out.cell 2
      simp only [List.getElem?_toArray, List.getElem?_cons_zero, List.getElem?_cons_succ] at x0 x1 x2
      go_wp2_with fail
      obtain ⟨w9, hw⟩ : ∃ y_, y_ = w8.alloc (.cells #[.int .i64 b] 3) := ⟨_, rfl⟩
      obtain ⟨b9, hbx⟩ : ∃ y_, y_ = w8.heap.size := ⟨_, rfl⟩
      have hb : Below w8.heap.size w8 w9 := by rw [hw]; exact below_alloc _ _
      have hl : Lies w9 b9 3 #[.int .i64 b] := by rw [hw, hbx]; exact Lies.new _ _ _
      rw [← hw, ← hbx]
      clear hw hbx
      clear x0 x1 x2
      have HB9 := hid (then_w HB8.out hb)
      have HX9 := hid (HX8.out.later hb)
      clear hb
      clear HB8 HX8
      refine (cdo_any13 h 4 a [b] (some ⟨b9, 0, none⟩) 1 A c _ (HS.out.below HB9.out) HF.out (lies_ints13 hl rfl) (by simp) HWD.out).mono ?_
      rintro e w10 ⟨A4, c4, rfl, -, hb⟩
      rw [E4.out]
      clear hl
      have HB10 := hid (then_w HB9.out hb)
      have HX10 := hid (HX9.out.later hb)
      clear hb
      clear HB9 HX9
      go_upto_region 15 with fail
      obtain ⟨w11, hw⟩ : ∃ x, x = w10.alloc (.cells #[.slice A4 h.objs.length c4, .int .i64 h.cap, .int .i64 h.last] 24) := ⟨_, rfl⟩
      have hb : Below w10.heap.size w10 w11 := by rw [hw]; exact below_alloc _ _
      rw [← hw]
      clear hw
      have HB11 := hid (then_w HB10.out hb)
      have HX11 := hid (HX10.out.later hb)
      clear hb
      clear HB10 HX10
      have x0 := HX11.out.cell 0
      have x1 := HX11.out.cell 1
      have x2 := HX11.out.cell 2
      simp only [List.getElem?_toArray, List.getElem?_cons_zero, List.getElem?_cons_succ] at x0 x1 x2
      go_wp2_with fail
      obtain ⟨w12, hw⟩ : ∃ y_, y_ = w11.alloc (.cells #[.int .i64 b] 3) := ⟨_, rfl⟩
      obtain ⟨b12, hbx⟩ : ∃ y_, y_ = w11.heap.size := ⟨_, rfl⟩
      have hb : Below w11.heap.size w11 w12 := by rw [hw]; exact below_alloc _ _
      have hl : Lies w12 b12 3 #[.int .i64 b] := by rw [hw, hbx]; exact Lies.new _ _ _
      rw [← hw, ← hbx]
      clear hw hbx
      clear x0 x1 x2
      have HB12 := hid (then_w HB11.out hb)
      have HX12 := hid (HX11.out.later hb)
      clear hb
      clear HB11 HX11
      refine (cdo_any13 h 5 a [b] (some ⟨b12, 0, none⟩) 1 A c _ (HS.out.below HB12.out) HF.out (lies_ints13 hl rfl) (by simp) HWD.out).mono ?_
      rintro e w13 ⟨A5, c5, rfl, -, hb⟩
      rw [E5.out]
      clear hl
      have HB13 := hid (then_w HB12.out hb)
      have HX13 := hid (HX12.out.later hb)
      clear hb
      clear HB12 HX12
      go_upto_region 16 with fail
      obtain ⟨w14, hw⟩ : ∃ x, x = w13.alloc (.cells #[.slice A5 h.objs.length c5, .int .i64 h.cap, .int .i64 h.last] 24) := ⟨_, rfl⟩
      have hb : Below w13.heap.size w13 w14 := by rw [hw]; exact below_alloc _ _
      rw [← hw]
      clear hw
      have HB14 := hid (then_w HB13.out hb)
      have HX14 := hid (HX13.out.later hb)
      clear hb
      clear HB13 HX13
      have x0 := HX14.out.cell 0
      have x1 := HX14.out.cell 1
      have x2 := HX14.out.cell 2
      simp only [List.getElem?_toArray, List.getElem?_cons_zero, List.getElem?_cons_succ] at x0 x1 x2
      go_wp2_with fail
      refine (rn_w13 _ _).mono ?_
      rintro e w15 ⟨rfl, hb⟩
      clear x0 x1 x2
      rw [NQ.out]
      have HB15 := hid (then_w HB14.out hb)
      have HX15 := hid (HX14.out.later hb)
      clear hb
      clear HB14 HX14
      go_wp2_with fail
      refine (rn_w13 _ _).mono ?_
      rintro e w16 ⟨rfl, hb⟩
      rw [N2.out]
      have HB16 := hid (then_w HB15.out hb)
      have HX16 := hid (HX15.out.later hb)
      clear hb
      clear HB15 HX15
      have re := HRE.out
      have rp := HRP.out
      have rn := HRN.out
      have hbd := HBD.out
      have h0 := H0.out
      have bn := smB_iff.1 S2.out
      rw [Int.mul_comm] at hbd
      have hk1 : IntKind.i64.wrap (q * n) = q * n := IntWalk.i64_in _ (by omega)
      have hk2 : IntKind.i64.wrap (q * n + r) = m := by rw [re]; exact IntWalk.i64_in _ (by have := smB_iff.1 S1.out; omega)
      have hk3 : IntKind.i64.wrap (-n) = -n := IntWalk.i64_in _ (by omega)
      obtain ⟨mx, hmx⟩ : ∃ y, y = max n (-n) := ⟨_, rfl⟩
      have hM1 : n ≤ mx := by rw [hmx]; exact Int.le_max_left _ _
      have hM2 : -n ≤ mx := by rw [hmx]; exact Int.le_max_right _ _
      have hM3 : mx ≤ 1073741824 := by rw [hmx]; exact Int.max_le.2 ⟨by omega, by omega⟩
      have hm4 : IntKind.i64.wrap (-mx) = -mx := IntWalk.i64_in _ (by omega)
      have hm5 : r < mx := by rcases Int.lt_or_gt_of_ne h0 with g | g
                              · have := rn g; omega
                              · have := rp g; omega
      have hm6 : -mx < r := by rcases Int.lt_or_gt_of_ne h0 with g | g
                               · have := rn g; omega
                               · have := rp g; omega
      have hm7 : 0 < mx := by omega
      have hm8 : -mx < 0 := by omega
      rw [hmx] at hm4 hm5 hm6 hm7 hm8
      have hk5 : r = 0 → q * n = m := fun g => by rw [g, Int.add_zero] at re; exact re
      clear hbd re bn hM1 hM2 hM3 hmx
      by_cases hn : n < 0 <;> by_cases hr : r = 0
      all_goals
        try have hk6 := hk5 hr
        try have hk7 : IntKind.i64.wrap m = m := IntWalk.i64_in _ (by have := smB_iff.1 S1.out; omega)
        clear hk5
        go_wp2_with fail
        go_ret
        exact ⟨rfl, HB16.out⟩
    have hhi : ¬ m + n < 1073741824 := by omega
    have x0 := HX8.out.cell 0
    have x1 := HX8.out.cell 1
    have x2 := HX8.out.cell 2
    simp only [List.getElem?_toArray, List.getElem?_cons_zero, List.getElem?_cons_succ] at x0 x1 x2
    go_upto_region 14 with fail
    clear x0 x1 x2
    by_cases h0 : n = 0
    case pos =>
      have E4 : Hid (do13 h 4 a [b] = (h, 0, 130)) := by show _ = _; rw [D4.out, if_pos h0]; rfl
      have E5 : Hid (do13 h 5 a [b] = (h, 0, 130)) := by show _ = _; rw [D5.out, if_pos h0]; rfl
      clear D4 D5
      have x0 := HX8.out.cell 0
      have x1 := HX8.out.cell 1
      have x2 := HX8.out.cell 2
      simp only [List.getElem?_toArray, List.getElem?_cons_zero, List.getElem?_cons_succ] at x0 x1 x2
      go_wp2_with fail
      obtain ⟨w9, hw⟩ : ∃ y_, y_ = w8.alloc (.cells #[.int .i64 b] 3) := ⟨_, rfl⟩
      obtain ⟨b9, hbx⟩ : ∃ y_, y_ = w8.heap.size := ⟨_, rfl⟩
      have hb : Below w8.heap.size w8 w9 := by rw [hw]; exact below_alloc _ _
      have hl : Lies w9 b9 3 #[.int .i64 b] := by rw [hw, hbx]; exact Lies.new _ _ _
      rw [← hw, ← hbx]
      clear hw hbx
      clear x0 x1 x2
      have HB9 := hid (then_w HB8.out hb)
      have HX9 := hid (HX8.out.later hb)
      clear hb
      clear HB8 HX8
      refine (cdo_any13 h 4 a [b] (some ⟨b9, 0, none⟩) 1 A c _ (HS.out.below HB9.out) HF.out (lies_ints13 hl rfl) (by simp) HWD.out).mono ?_
      rintro e w10 ⟨A4, c4, rfl, -, hb⟩
      rw [E4.out]
      clear hl
      have HB10 := hid (then_w HB9.out hb)
      have HX10 := hid (HX9.out.later hb)
      clear hb
      clear HB9 HX9
      go_upto_region 15 with fail
      obtain ⟨w11, hw⟩ : ∃ x, x = w10.alloc (.cells #[.slice A4 h.objs.length c4, .int .i64 h.cap, .int .i64 h.last] 24) := ⟨_, rfl⟩
      have hb : Below w10.heap.size w10 w11 := by rw [hw]; exact below_alloc _ _
      rw [← hw]
      clear hw
      have HB11 := hid (then_w HB10.out hb)
      have HX11 := hid (HX10.out.later hb)
      clear hb
      clear HB10 HX10
      have x0 := HX11.out.cell 0
      have x1 := HX11.out.cell 1
      have x2 := HX11.out.cell 2
      simp only [List.getElem?_toArray, List.getElem?_cons_zero, List.getElem?_cons_succ] at x0 x1 x2
      go_wp2_with fail
      obtain ⟨w12, hw⟩ : ∃ y_, y_ = w11.alloc (.cells #[.int .i64 b] 3) := ⟨_, rfl⟩
      obtain ⟨b12, hbx⟩ : ∃ y_, y_ = w11.heap.size := ⟨_, rfl⟩
      have hb : Below w11.heap.size w11 w12 := by rw [hw]; exact below_alloc _ _
      have hl : Lies w12 b12 3 #[.int .i64 b] := by rw [hw, hbx]; exact Lies.new _ _ _
      rw [← hw, ← hbx]
      clear hw hbx
      clear x0 x1 x2
      have HB12 := hid (then_w HB11.out hb)
      have HX12 := hid (HX11.out.later hb)
      clear hb
      clear HB11 HX11
      refine (cdo_any13 h 5 a [b] (some ⟨b12, 0, none⟩) 1 A c _ (HS.out.below HB12.out) HF.out (lies_ints13 hl rfl) (by simp) HWD.out).mono ?_
      rintro e w13 ⟨A5, c5, rfl, -, hb⟩
      rw [E5.out]
      clear hl
      have HB13 := hid (then_w HB12.out hb)
      have HX13 := hid (HX12.out.later hb)
      clear hb
      clear HB12 HX12
      go_upto_region 16 with fail
      obtain ⟨w14, hw⟩ : ∃ x, x = w13.alloc (.cells #[.slice A5 h.objs.length c5, .int .i64 h.cap, .int .i64 h.last] 24) := ⟨_, rfl⟩
      have hb : Below w13.heap.size w13 w14 := by rw [hw]; exact below_alloc _ _
      rw [← hw]
      clear hw
      have HB14 := hid (then_w HB13.out hb)
      have HX14 := hid (HX13.out.later hb)
      clear hb
      clear HB13 HX13
      have x0 := HX14.out.cell 0
      have x1 := HX14.out.cell 1
      have x2 := HX14.out.cell 2
      simp only [List.getElem?_toArray, List.getElem?_cons_zero, List.getElem?_cons_succ] at x0 x1 x2
      go_wp2_with fail
      go_ret
      exact ⟨rfl, HB14.out⟩
    have r5 := rest_sm13 S2.out h0 (m := m)
    obtain ⟨re, rp, rn⟩ := rest13 (m := m) h0
    have hbd := rest_bd13 (smB_iff.1 S1.out) (smB_iff.1 S2.out) h0
    obtain ⟨n1, n2, -⟩ := sm_num13 r5
    have N2 := hid n2
    have hqm := fun g => quot_sm13 S1.out S2.out h0 g (m := m)
    rw [if_neg h0] at D4 D5
    obtain ⟨q, hq9⟩ : ∃ y, y = m.fdiv n := ⟨_, rfl⟩
    have HQ9 := hid hq9
    rw [← hq9] at D4 D5 re rp rn hbd N2 r5 hqm
    obtain ⟨r, hr9⟩ : ∃ y, y = m - n * q := ⟨_, rfl⟩
    rw [← hr9] at D5 re rp rn N2 r5
    have HR9 := hid hr9
    have HRE := hid re
    have HRP := hid rp
    have HRN := hid rn
    have HBD := hid hbd
    have HQM := hid hqm
    have E5 : Hid (do13 h 5 a [b] = (h, 2 * r + 1, 0)) := by show _ = _; rw [D5.out]; unfold in13; rw [if_pos r5]
    clear D5 re rp rn hbd hq9 hr9 n1 n2 r5 hqm
    have H0 := hid h0
    cases hq : smB q
    · have HMN := hid (HQM.out hq)
      have E4 : Hid (do13 h 4 a [b] = (h, 0, 130)) := by show _ = _; rw [D4.out]; unfold in13; rw [if_neg (by rw [hq]; decide)]; rfl
      clear D4 hq
      have x0 := HX8.out.cell 0
      have x1 := HX8.out.cell 1
      have x2 := HX8.out.cell 2
      simp only [List.getElem?_toArray, List.getElem?_cons_zero, List.getElem?_cons_succ] at x0 x1 x2
      go_wp2_with fail
      obtain ⟨w9, hw⟩ : ∃ y_, y_ = w8.alloc (.cells #[.int .i64 b] 3) := ⟨_, rfl⟩
      obtain ⟨b9, hbx⟩ : ∃ y_, y_ = w8.heap.size := ⟨_, rfl⟩
      have hb : Below w8.heap.size w8 w9 := by rw [hw]; exact below_alloc _ _
      have hl : Lies w9 b9 3 #[.int .i64 b] := by rw [hw, hbx]; exact Lies.new _ _ _
      rw [← hw, ← hbx]
      clear hw hbx
      clear x0 x1 x2
      have HB9 := hid (then_w HB8.out hb)
      have HX9 := hid (HX8.out.later hb)
      clear hb
      clear HB8 HX8
      refine (cdo_any13 h 4 a [b] (some ⟨b9, 0, none⟩) 1 A c _ (HS.out.below HB9.out) HF.out (lies_ints13 hl rfl) (by simp) HWD.out).mono ?_
      rintro e w10 ⟨A4, c4, rfl, -, hb⟩
      rw [E4.out]
      clear hl
      have HB10 := hid (then_w HB9.out hb)
      have HX10 := hid (HX9.out.later hb)
      clear hb
      clear HB9 HX9
      go_upto_region 15 with fail
      obtain ⟨w11, hw⟩ : ∃ x, x = w10.alloc (.cells #[.slice A4 h.objs.length c4, .int .i64 h.cap, .int .i64 h.last] 24) := ⟨_, rfl⟩
      have hb : Below w10.heap.size w10 w11 := by rw [hw]; exact below_alloc _ _
      rw [← hw]
      clear hw
      have HB11 := hid (then_w HB10.out hb)
      have HX11 := hid (HX10.out.later hb)
      clear hb
      clear HB10 HX10
      have x0 := HX11.out.cell 0
      have x1 := HX11.out.cell 1
      have x2 := HX11.out.cell 2
      simp only [List.getElem?_toArray, List.getElem?_cons_zero, List.getElem?_cons_succ] at x0 x1 x2
      go_wp2_with fail
      obtain ⟨w12, hw⟩ : ∃ y_, y_ = w11.alloc (.cells #[.int .i64 b] 3) := ⟨_, rfl⟩
      obtain ⟨b12, hbx⟩ : ∃ y_, y_ = w11.heap.size := ⟨_, rfl⟩
      have hb : Below w11.heap.size w11 w12 := by rw [hw]; exact below_alloc _ _
      have hl : Lies w12 b12 3 #[.int .i64 b] := by rw [hw, hbx]; exact Lies.new _ _ _
      rw [← hw, ← hbx]
      clear hw hbx
      clear x0 x1 x2
      have HB12 := hid (then_w HB11.out hb)
      have HX12 := hid (HX11.out.later hb)
      clear hb
      clear HB11 HX11
      refine (cdo_any13 h 5 a [b] (some ⟨b12, 0, none⟩) 1 A c _ (HS.out.below HB12.out) HF.out (lies_ints13 hl rfl) (by simp) HWD.out).mono ?_
      rintro e w13 ⟨A5, c5, rfl, -, hb⟩
      rw [E5.out]
      clear hl
      have HB13 := hid (then_w HB12.out hb)
      have HX13 := hid (HX12.out.later hb)
      clear hb
      clear HB12 HX12
      go_upto_region 16 with fail
      obtain ⟨w14, hw⟩ : ∃ x, x = w13.alloc (.cells #[.slice A5 h.objs.length c5, .int .i64 h.cap, .int .i64 h.last] 24) := ⟨_, rfl⟩
      have hb : Below w13.heap.size w13 w14 := by rw [hw]; exact below_alloc _ _
      rw [← hw]
      clear hw
      have HB14 := hid (then_w HB13.out hb)
      have HX14 := hid (HX13.out.later hb)
      clear hb
      clear HB13 HX13
      obtain ⟨hm9, hn9⟩ := HMN.out
      have h0 := H0.out
      have x0 := HX14.out.cell 0
      have x1 := HX14.out.cell 1
      have x2 := HX14.out.cell 2
      simp only [List.getElem?_toArray, List.getElem?_cons_zero, List.getElem?_cons_succ] at x0 x1 x2
      go_wp2_with fail
      go_ret
      exact ⟨rfl, HB14.out⟩
    have E4 : Hid (do13 h 4 a [b] = (h, 2 * q + 1, 0)) := by show _ = _; rw [D4.out]; unfold in13; rw [if_pos hq]
    have NQ := hid (sm_num13 hq).2.1
    clear D4 hq
    have x0 := HX8.out.cell 0
    have x1 := HX8.out.cell 1
    have x2 := HX8.out.cell 2
    simp only [List.getElem?_toArray, List.getElem?_cons_zero, List.getElem?_cons_succ] at x0 x1 x2
    go_wp2_with fail
    obtain ⟨w9, hw⟩ : ∃ y_, y_ = w8.alloc (.cells #[.int .i64 b] 3) := ⟨_, rfl⟩
    obtain ⟨b9, hbx⟩ : ∃ y_, y_ = w8.heap.size := ⟨_, rfl⟩
    have hb : Below w8.heap.size w8 w9 := by rw [hw]; exact below_alloc _ _
    have hl : Lies w9 b9 3 #[.int .i64 b] := by rw [hw, hbx]; exact Lies.new _ _ _
    rw [← hw, ← hbx]
    clear hw hbx
    clear x0 x1 x2
    have HB9 := hid (then_w HB8.out hb)
    have HX9 := hid (HX8.out.later hb)
    clear hb
    clear HB8 HX8
    refine (cdo_any13 h 4 a [b] (some ⟨b9, 0, none⟩) 1 A c _ (HS.out.below HB9.out) HF.out (lies_ints13 hl rfl) (by simp) HWD.out).mono ?_
    rintro e w10 ⟨A4, c4, rfl, -, hb⟩
    rw [E4.out]
    clear hl
    have HB10 := hid (then_w HB9.out hb)
    have HX10 := hid (HX9.out.later hb)
    clear hb
    clear HB9 HX9
    go_upto_region 15 with fail
    obtain ⟨w11, hw⟩ : ∃ x, x = w10.alloc (.cells #[.slice A4 h.objs.length c4, .int .i64 h.cap, .int .i64 h.last] 24) := ⟨_, rfl⟩
    have hb : Below w10.heap.size w10 w11 := by rw [hw]; exact below_alloc _ _
    rw [← hw]
    clear hw
    have HB11 := hid (then_w HB10.out hb)
    have HX11 := hid (HX10.out.later hb)
    clear hb
    clear HB10 HX10
    have x0 := HX11.out.cell 0
    have x1 := HX11.out.cell 1
    have x2 := HX11.out.cell 2
    simp only [List.getElem?_toArray, List.getElem?_cons_zero, List.getElem?_cons_succ] at x0 x1 x2
    go_wp2_with fail
    obtain ⟨w12, hw⟩ : ∃ y_, y_ = w11.alloc (.cells #[.int .i64 b] 3) := ⟨_, rfl⟩
    obtain ⟨b12, hbx⟩ : ∃ y_, y_ = w11.heap.size := ⟨_, rfl⟩
    have hb : Below w11.heap.size w11 w12 := by rw [hw]; exact below_alloc _ _
    have hl : Lies w12 b12 3 #[.int .i64 b] := by rw [hw, hbx]; exact Lies.new _ _ _
    rw [← hw, ← hbx]
    clear hw hbx
    clear x0 x1 x2
    have HB12 := hid (then_w HB11.out hb)
    have HX12 := hid (HX11.out.later hb)
    clear hb
    clear HB11 HX11
    refine (cdo_any13 h 5 a [b] (some ⟨b12, 0, none⟩) 1 A c _ (HS.out.below HB12.out) HF.out (lies_ints13 hl rfl) (by simp) HWD.out).mono ?_
    rintro e w13 ⟨A5, c5, rfl, -, hb⟩
    rw [E5.out]
    clear hl
    have HB13 := hid (then_w HB12.out hb)
    have HX13 := hid (HX12.out.later hb)
    clear hb
    clear HB12 HX12
    go_upto_region 16 with fail
    obtain ⟨w14, hw⟩ : ∃ x, x = w13.alloc (.cells #[.slice A5 h.objs.length c5, .int .i64 h.cap, .int .i64 h.last] 24) := ⟨_, rfl⟩
    have hb : Below w13.heap.size w13 w14 := by rw [hw]; exact below_alloc _ _
    rw [← hw]
    clear hw
    have HB14 := hid (then_w HB13.out hb)
    have HX14 := hid (HX13.out.later hb)
    clear hb
    clear HB13 HX13
    have x0 := HX14.out.cell 0
    have x1 := HX14.out.cell 1
    have x2 := HX14.out.cell 2
    simp only [List.getElem?_toArray, List.getElem?_cons_zero, List.getElem?_cons_succ] at x0 x1 x2
    go_wp2_with fail
    refine (rn_w13 _ _).mono ?_
    rintro e w15 ⟨rfl, hb⟩
    clear x0 x1 x2
    rw [NQ.out]
    have HB15 := hid (then_w HB14.out hb)
    have HX15 := hid (HX14.out.later hb)
    clear hb
    clear HB14 HX14
    go_wp2_with fail
    refine (rn_w13 _ _).mono ?_
    rintro e w16 ⟨rfl, hb⟩
    rw [N2.out]
    have HB16 := hid (then_w HB15.out hb)
    have HX16 := hid (HX15.out.later hb)
    clear hb
    clear HB15 HX15
    have re := HRE.out
    have rp := HRP.out
    have rn := HRN.out
    have hbd := HBD.out
    have h0 := H0.out
    have bn := smB_iff.1 S2.out
    rw [Int.mul_comm] at hbd
    have hk1 : IntKind.i64.wrap (q * n) = q * n := IntWalk.i64_in _ (by omega)
    have hk2 : IntKind.i64.wrap (q * n + r) = m := by rw [re]; exact IntWalk.i64_in _ (by have := smB_iff.1 S1.out; omega)
    have hk3 : IntKind.i64.wrap (-n) = -n := IntWalk.i64_in _ (by omega)
    obtain ⟨mx, hmx⟩ : ∃ y, y = max n (-n) := ⟨_, rfl⟩
    have hM1 : n ≤ mx := by rw [hmx]; exact Int.le_max_left _ _
    have hM2 : -n ≤ mx := by rw [hmx]; exact Int.le_max_right _ _
    have hM3 : mx ≤ 1073741824 := by rw [hmx]; exact Int.max_le.2 ⟨by omega, by omega⟩
    have hm4 : IntKind.i64.wrap (-mx) = -mx := IntWalk.i64_in _ (by omega)
    have hm5 : r < mx := by rcases Int.lt_or_gt_of_ne h0 with g | g
                            · have := rn g; omega
                            · have := rp g; omega
    have hm6 : -mx < r := by rcases Int.lt_or_gt_of_ne h0 with g | g
                             · have := rn g; omega
                             · have := rp g; omega
    have hm7 : 0 < mx := by omega
    have hm8 : -mx < 0 := by omega
    rw [hmx] at hm4 hm5 hm6 hm7 hm8
    have hk5 : r = 0 → q * n = m := fun g => by rw [g, Int.add_zero] at re; exact re
    clear hbd re bn hM1 hM2 hM3 hmx
    by_cases hn : n < 0 <;> by_cases hr : r = 0
    all_goals
      try have hk6 := hk5 hr
      try have hk7 : IntKind.i64.wrap m = m := IntWalk.i64_in _ (by have := smB_iff.1 S1.out; omega)
      clear hk5
      go_wp2_with fail
      go_ret
      exact ⟨rfl, HB16.out⟩
  have E1 : Hid (do13 h 1 a [b] = (h, 2 * (m + n) + 1, 0)) := by show _ = _; rw [D1.out]; unfold in13; rw [if_pos s3]
  have E2 := hid (D2.out s3)
  have S3 := hid s3
  clear s3
  obtain ⟨s, hs9⟩ : ∃ y, y = 2 * (m + n) + 1 := ⟨_, rfl⟩
  rw [← hs9] at E1 E2
  have HS9 := hid hs9
  clear hs9
  have x0 := HX5.out.cell 0
  have x1 := HX5.out.cell 1
  have x2 := HX5.out.cell 2
  simp only [List.getElem?_toArray, List.getElem?_cons_zero, List.getElem?_cons_succ] at x0 x1 x2
  go_wp2_with fail
  obtain ⟨w6, hw⟩ : ∃ y_, y_ = w5.alloc (.cells #[.int .i64 b] 3) := ⟨_, rfl⟩
  obtain ⟨b6, hbx⟩ : ∃ y_, y_ = w5.heap.size := ⟨_, rfl⟩
  have hb : Below w5.heap.size w5 w6 := by rw [hw]; exact below_alloc _ _
  have hl : Lies w6 b6 3 #[.int .i64 b] := by rw [hw, hbx]; exact Lies.new _ _ _
  rw [← hw, ← hbx]
  clear hw hbx
  clear x0 x1 x2
  have HB6 := hid (then_w HB5.out hb)
  have HX6 := hid (HX5.out.later hb)
  clear hb
  clear HB5 HX5
  refine (cdo_any13 h 1 a [b] (some ⟨b6, 0, none⟩) 1 A c _ (HS.out.below HB6.out) HF.out (lies_ints13 hl rfl) (by simp) HWD.out).mono ?_
  rintro e w7 ⟨A1, c1, rfl, -, hb⟩
  rw [E1.out]
  clear hl
  have HB7 := hid (then_w HB6.out hb)
  have HX7 := hid (HX6.out.later hb)
  clear hb
  clear HB6 HX6
  go_upto_region 8 with fail
  obtain ⟨w8, hw⟩ : ∃ x, x = w7.alloc (.cells #[.slice A1 h.objs.length c1, .int .i64 h.cap, .int .i64 h.last] 24) := ⟨_, rfl⟩
  have hb : Below w7.heap.size w7 w8 := by rw [hw]; exact below_alloc _ _
  rw [← hw]
  clear hw
  have HB8 := hid (then_w HB7.out hb)
  have HX8 := hid (HX7.out.later hb)
  clear hb
  clear HB7 HX7
  obtain ⟨hw1, hw2, hw3⟩ := HW.out
  have hlo := (smB_iff.1 S3.out).1
  have hhi : m + n < 1073741824 := by have := (smB_iff.1 S3.out).2; omega
  have hw4 := hw3.trans HS9.out.symm
  clear hw3
  have x0 := HX8.out.cell 0
  have x1 := HX8.out.cell 1
  have x2 := HX8.out.cell 2
  simp only [List.getElem?_toArray, List.getElem?_cons_zero, List.getElem?_cons_succ] at x0 x1 x2
  go_upto_region 11 with fail
  clear x0 x1 x2
  have x0 := HX8.out.cell 0
  have x1 := HX8.out.cell 1
  have x2 := HX8.out.cell 2
  simp only [List.getElem?_toArray, List.getElem?_cons_zero, List.getElem?_cons_succ] at x0 x1 x2
  go_wp2_with fail
  obtain ⟨w9, hw⟩ : ∃ y_, y_ = w8.alloc (.cells #[.int .i64 b] 3) := ⟨_, rfl⟩
  obtain ⟨b9, hbx⟩ : ∃ y_, y_ = w8.heap.size := ⟨_, rfl⟩
  have hb : Below w8.heap.size w8 w9 := by rw [hw]; exact below_alloc _ _
  have hl : Lies w9 b9 3 #[.int .i64 b] := by rw [hw, hbx]; exact Lies.new _ _ _
  rw [← hw, ← hbx]
  clear hw hbx
  clear x0 x1 x2
  have HB9 := hid (then_w HB8.out hb)
  have HX9 := hid (HX8.out.later hb)
  clear hb
  clear HB8 HX8
  refine (cdo_any13 h 2 s [b] (some ⟨b9, 0, none⟩) 1 A c _ (HS.out.below HB9.out) HF.out (lies_ints13 hl rfl) (by simp) HWD.out).mono ?_
  rintro e w10 ⟨A2, c2, rfl, -, hb⟩
  rw [E2.out]
  clear hl
  have HB10 := hid (then_w HB9.out hb)
  have HX10 := hid (HX9.out.later hb)
  clear hb
  clear HB9 HX9
  go_upto_region 12 with fail
  obtain ⟨w11, hw⟩ : ∃ x, x = w10.alloc (.cells #[.slice A2 h.objs.length c2, .int .i64 h.cap, .int .i64 h.last] 24) := ⟨_, rfl⟩
  have hb : Below w10.heap.size w10 w11 := by rw [hw]; exact below_alloc _ _
  rw [← hw]
  clear hw
  have HB11 := hid (then_w HB10.out hb)
  have HX11 := hid (HX10.out.later hb)
  clear hb
  clear HB10 HX10
  have x0 := HX11.out.cell 0
  have x1 := HX11.out.cell 1
  have x2 := HX11.out.cell 2
  simp only [List.getElem?_toArray, List.getElem?_cons_zero, List.getElem?_cons_succ] at x0 x1 x2
  go_upto_region 14 with fail
  clear x0 x1 x2
  by_cases h0 : n = 0
  case pos =>
    have E4 : Hid (do13 h 4 a [b] = (h, 0, 130)) := by show _ = _; rw [D4.out, if_pos h0]; rfl
    have E5 : Hid (do13 h 5 a [b] = (h, 0, 130)) := by show _ = _; rw [D5.out, if_pos h0]; rfl
    clear D4 D5
    have x0 := HX11.out.cell 0
    have x1 := HX11.out.cell 1
    have x2 := HX11.out.cell 2
    simp only [List.getElem?_toArray, List.getElem?_cons_zero, List.getElem?_cons_succ] at x0 x1 x2
    go_wp2_with fail
    obtain ⟨w12, hw⟩ : ∃ y_, y_ = w11.alloc (.cells #[.int .i64 b] 3) := ⟨_, rfl⟩
    obtain ⟨b12, hbx⟩ : ∃ y_, y_ = w11.heap.size := ⟨_, rfl⟩
    have hb : Below w11.heap.size w11 w12 := by rw [hw]; exact below_alloc _ _
    have hl : Lies w12 b12 3 #[.int .i64 b] := by rw [hw, hbx]; exact Lies.new _ _ _
    rw [← hw, ← hbx]
    clear hw hbx
    clear x0 x1 x2
    have HB12 := hid (then_w HB11.out hb)
    have HX12 := hid (HX11.out.later hb)
    clear hb
    clear HB11 HX11
    refine (cdo_any13 h 4 a [b] (some ⟨b12, 0, none⟩) 1 A c _ (HS.out.below HB12.out) HF.out (lies_ints13 hl rfl) (by simp) HWD.out).mono ?_
    rintro e w13 ⟨A4, c4, rfl, -, hb⟩
    rw [E4.out]
    clear hl
    have HB13 := hid (then_w HB12.out hb)
    have HX13 := hid (HX12.out.later hb)
    clear hb
    clear HB12 HX12
    go_upto_region 15 with fail
    obtain ⟨w14, hw⟩ : ∃ x, x = w13.alloc (.cells #[.slice A4 h.objs.length c4, .int .i64 h.cap, .int .i64 h.last] 24) := ⟨_, rfl⟩
    have hb : Below w13.heap.size w13 w14 := by rw [hw]; exact below_alloc _ _
    rw [← hw]
    clear hw
    have HB14 := hid (then_w HB13.out hb)
    have HX14 := hid (HX13.out.later hb)
    clear hb
    clear HB13 HX13
    have x0 := HX14.out.cell 0
    have x1 := HX14.out.cell 1
    have x2 := HX14.out.cell 2
    simp only [List.getElem?_toArray, List.getElem?_cons_zero, List.getElem?_cons_succ] at x0 x1 x2
    go_wp2_with fail
    obtain ⟨w15, hw⟩ : ∃ y_, y_ = w14.alloc (.cells #[.int .i64 b] 3) := ⟨_, rfl⟩
    obtain ⟨b15, hbx⟩ : ∃ y_, y_ = w14.heap.size := ⟨_, rfl⟩
    have hb : Below w14.heap.size w14 w15 := by rw [hw]; exact below_alloc _ _
    have hl : Lies w15 b15 3 #[.int .i64 b] := by rw [hw, hbx]; exact Lies.new _ _ _
    rw [← hw, ← hbx]
    clear hw hbx
    clear x0 x1 x2
    have HB15 := hid (then_w HB14.out hb)
    have HX15 := hid (HX14.out.later hb)
    clear hb
    clear HB14 HX14
    refine (cdo_any13 h 5 a [b] (some ⟨b15, 0, none⟩) 1 A c _ (HS.out.below HB15.out) HF.out (lies_ints13 hl rfl) (by simp) HWD.out).mono ?_
    rintro e w16 ⟨A5, c5, rfl, -, hb⟩
    rw [E5.out]
    clear hl
    have HB16 := hid (then_w HB15.out hb)
    have HX16 := hid (HX15.out.later hb)
    clear hb
    clear HB15 HX15
    go_upto_region 16 with fail
    obtain ⟨w17, hw⟩ : ∃ x, x = w16.alloc (.cells #[.slice A5 h.objs.length c5, .int .i64 h.cap, .int .i64 h.last] 24) := ⟨_, rfl⟩
    have hb : Below w16.heap.size w16 w17 := by rw [hw]; exact below_alloc _ _
    rw [← hw]
    clear hw
    have HB17 := hid (then_w HB16.out hb)
    have HX17 := hid (HX16.out.later hb)
    clear hb
    clear HB16 HX16
    have x0 := HX17.out.cell 0
    have x1 := HX17.out.cell 1
    have x2 := HX17.out.cell 2
    simp only [List.getElem?_toArray, List.getElem?_cons_zero, List.getElem?_cons_succ] at x0 x1 x2
    go_wp2_with fail
    go_ret
    exact ⟨rfl, HB17.out⟩
  have r5 := rest_sm13 S2.out h0 (m := m)
  obtain ⟨re, rp, rn⟩ := rest13 (m := m) h0
  have hbd := rest_bd13 (smB_iff.1 S1.out) (smB_iff.1 S2.out) h0
  obtain ⟨n1, n2, -⟩ := sm_num13 r5
  have N2 := hid n2
  have hqm := fun g => quot_sm13 S1.out S2.out h0 g (m := m)
  rw [if_neg h0] at D4 D5
  obtain ⟨q, hq9⟩ : ∃ y, y = m.fdiv n := ⟨_, rfl⟩
  have HQ9 := hid hq9
  rw [← hq9] at D4 D5 re rp rn hbd N2 r5 hqm
  obtain ⟨r, hr9⟩ : ∃ y, y = m - n * q := ⟨_, rfl⟩
  rw [← hr9] at D5 re rp rn N2 r5
  have HR9 := hid hr9
  have HRE := hid re
  have HRP := hid rp
  have HRN := hid rn
  have HBD := hid hbd
  have HQM := hid hqm
  have E5 : Hid (do13 h 5 a [b] = (h, 2 * r + 1, 0)) := by show _ = _; rw [D5.out]; unfold in13; rw [if_pos r5]
  clear D5 re rp rn hbd hq9 hr9 n1 n2 r5 hqm
  have H0 := hid h0
  cases hq : smB q
  · have HMN := hid (HQM.out hq)
    have E4 : Hid (do13 h 4 a [b] = (h, 0, 130)) := by show _ = _; rw [D4.out]; unfold in13; rw [if_neg (by rw [hq]; decide)]; rfl
    clear D4 hq
    have x0 := HX11.out.cell 0
    have x1 := HX11.out.cell 1
    have x2 := HX11.out.cell 2
    simp only [List.getElem?_toArray, List.getElem?_cons_zero, List.getElem?_cons_succ] at x0 x1 x2
    go_wp2_with fail
    obtain ⟨w12, hw⟩ : ∃ y_, y_ = w11.alloc (.cells #[.int .i64 b] 3) := ⟨_, rfl⟩
    obtain ⟨b12, hbx⟩ : ∃ y_, y_ = w11.heap.size := ⟨_, rfl⟩
    have hb : Below w11.heap.size w11 w12 := by rw [hw]; exact below_alloc _ _
    have hl : Lies w12 b12 3 #[.int .i64 b] := by rw [hw, hbx]; exact Lies.new _ _ _
    rw [← hw, ← hbx]
    clear hw hbx
    clear x0 x1 x2
    have HB12 := hid (then_w HB11.out hb)
    have HX12 := hid (HX11.out.later hb)
    clear hb
    clear HB11 HX11
    refine (cdo_any13 h 4 a [b] (some ⟨b12, 0, none⟩) 1 A c _ (HS.out.below HB12.out) HF.out (lies_ints13 hl rfl) (by simp) HWD.out).mono ?_
    rintro e w13 ⟨A4, c4, rfl, -, hb⟩
    rw [E4.out]
    clear hl
    have HB13 := hid (then_w HB12.out hb)
    have HX13 := hid (HX12.out.later hb)
    clear hb
    clear HB12 HX12
    go_upto_region 15 with fail
    obtain ⟨w14, hw⟩ : ∃ x, x = w13.alloc (.cells #[.slice A4 h.objs.length c4, .int .i64 h.cap, .int .i64 h.last] 24) := ⟨_, rfl⟩
    have hb : Below w13.heap.size w13 w14 := by rw [hw]; exact below_alloc _ _
    rw [← hw]
    clear hw
    have HB14 := hid (then_w HB13.out hb)
    have HX14 := hid (HX13.out.later hb)
    clear hb
    clear HB13 HX13
    have x0 := HX14.out.cell 0
    have x1 := HX14.out.cell 1
    have x2 := HX14.out.cell 2
    simp only [List.getElem?_toArray, List.getElem?_cons_zero, List.getElem?_cons_succ] at x0 x1 x2
    go_wp2_with fail
    obtain ⟨w15, hw⟩ : ∃ y_, y_ = w14.alloc (.cells #[.int .i64 b] 3) := ⟨_, rfl⟩
    obtain ⟨b15, hbx⟩ : ∃ y_, y_ = w14.heap.size := ⟨_, rfl⟩
    have hb : Below w14.heap.size w14 w15 := by rw [hw]; exact below_alloc _ _
    have hl : Lies w15 b15 3 #[.int .i64 b] := by rw [hw, hbx]; exact Lies.new _ _ _
    rw [← hw, ← hbx]
    clear hw hbx
    clear x0 x1 x2
    have HB15 := hid (then_w HB14.out hb)
    have HX15 := hid (HX14.out.later hb)
    clear hb
    clear HB14 HX14
    refine (cdo_any13 h 5 a [b] (some ⟨b15, 0, none⟩) 1 A c _ (HS.out.below HB15.out) HF.out (lies_ints13 hl rfl) (by simp) HWD.out).mono ?_
    rintro e w16 ⟨A5, c5, rfl, -, hb⟩
    rw [E5.out]
    clear hl
    have HB16 := hid (then_w HB15.out hb)
    have HX16 := hid (HX15.out.later hb)
    clear hb
    clear HB15 HX15
    go_upto_region 16 with fail
    obtain ⟨w17, hw⟩ : ∃ x, x = w16.alloc (.cells #[.slice A5 h.objs.length c5, .int .i64 h.cap, .int .i64 h.last] 24) := ⟨_, rfl⟩
    have hb : Below w16.heap.size w16 w17 := by rw [hw]; exact below_alloc _ _
    rw [← hw]
    clear hw
    have HB17 := hid (then_w HB16.out hb)
    have HX17 := hid (HX16.out.later hb)
    clear hb
    clear HB16 HX16
    obtain ⟨hm9, hn9⟩ := HMN.out
    have h0 := H0.out
    have x0 := HX17.out.cell 0
    have x1 := HX17.out.cell 1
    have x2 := HX17.out.cell 2
    simp only [List.getElem?_toArray, List.getElem?_cons_zero, List.getElem?_cons_succ] at x0 x1 x2
    go_wp2_with fail
    go_ret
    exact ⟨rfl, HB17.out⟩
  have E4 : Hid (do13 h 4 a [b] = (h, 2 * q + 1, 0)) := by show _ = _; rw [D4.out]; unfold in13; rw [if_pos hq]
  have NQ := hid (sm_num13 hq).2.1
  clear D4 hq
  have x0 := HX11.out.cell 0
  have x1 := HX11.out.cell 1
  have x2 := HX11.out.cell 2
  simp only [List.getElem?_toArray, List.getElem?_cons_zero, List.getElem?_cons_succ] at x0 x1 x2
  go_wp2_with fail
  obtain ⟨w12, hw⟩ : ∃ y_, y_ = w11.alloc (.cells #[.int .i64 b] 3) := ⟨_, rfl⟩
  obtain ⟨b12, hbx⟩ : ∃ y_, y_ = w11.heap.size := ⟨_, rfl⟩
  have hb : Below w11.heap.size w11 w12 := by rw [hw]; exact below_alloc _ _
  have hl : Lies w12 b12 3 #[.int .i64 b] := by rw [hw, hbx]; exact Lies.new _ _ _
  rw [← hw, ← hbx]
  clear hw hbx
  clear x0 x1 x2
  have HB12 := hid (then_w HB11.out hb)
  have HX12 := hid (HX11.out.later hb)
  clear hb
  clear HB11 HX11
  refine (cdo_any13 h 4 a [b] (some ⟨b12, 0, none⟩) 1 A c _ (HS.out.below HB12.out) HF.out (lies_ints13 hl rfl) (by simp) HWD.out).mono ?_
  rintro e w13 ⟨A4, c4, rfl, -, hb⟩
  rw [E4.out]
  clear hl
  have HB13 := hid (then_w HB12.out hb)
  have HX13 := hid (HX12.out.later hb)
  clear hb
  clear HB12 HX12
  go_upto_region 15 with fail
  obtain ⟨w14, hw⟩ : ∃ x, x = w13.alloc (.cells #[.slice A4 h.objs.length c4, .int .i64 h.cap, .int .i64 h.last] 24) := ⟨_, rfl⟩
  have hb : Below w13.heap.size w13 w14 := by rw [hw]; exact below_alloc _ _
  rw [← hw]
  clear hw
  have HB14 := hid (then_w HB13.out hb)
  have HX14 := hid (HX13.out.later hb)
  clear hb
  clear HB13 HX13
  have x0 := HX14.out.cell 0
  have x1 := HX14.out.cell 1
  have x2 := HX14.out.cell 2
  simp only [List.getElem?_toArray, List.getElem?_cons_zero, List.getElem?_cons_succ] at x0 x1 x2
  go_wp2_with fail
  obtain ⟨w15, hw⟩ : ∃ y_, y_ = w14.alloc (.cells #[.int .i64 b] 3) := ⟨_, rfl⟩
  obtain ⟨b15, hbx⟩ : ∃ y_, y_ = w14.heap.size := ⟨_, rfl⟩
  have hb : Below w14.heap.size w14 w15 := by rw [hw]; exact below_alloc _ _
  have hl : Lies w15 b15 3 #[.int .i64 b] := by rw [hw, hbx]; exact Lies.new _ _ _
  rw [← hw, ← hbx]
  clear hw hbx
  clear x0 x1 x2
  have HB15 := hid (then_w HB14.out hb)
  have HX15 := hid (HX14.out.later hb)
  clear hb
  clear HB14 HX14
  refine (cdo_any13 h 5 a [b] (some ⟨b15, 0, none⟩) 1 A c _ (HS.out.below HB15.out) HF.out (lies_ints13 hl rfl) (by simp) HWD.out).mono ?_
  rintro e w16 ⟨A5, c5, rfl, -, hb⟩
  rw [E5.out]
  clear hl
  have HB16 := hid (then_w HB15.out hb)
  have HX16 := hid (HX15.out.later hb)
  clear hb
  clear HB15 HX15
  go_upto_region 16 with fail
  obtain ⟨w17, hw⟩ : ∃ x, x = w16.alloc (.cells #[.slice A5 h.objs.length c5, .int .i64 h.cap, .int .i64 h.last] 24) := ⟨_, rfl⟩
  have hb : Below w16.heap.size w16 w17 := by rw [hw]; exact below_alloc _ _
  rw [← hw]
  clear hw
  have HB17 := hid (then_w HB16.out hb)
  have HX17 := hid (HX16.out.later hb)
  clear hb
  clear HB16 HX16
  have x0 := HX17.out.cell 0
  have x1 := HX17.out.cell 1
  have x2 := HX17.out.cell 2
  simp only [List.getElem?_toArray, List.getElem?_cons_zero, List.getElem?_cons_succ] at x0 x1 x2
  go_wp2_with fail
  refine (rn_w13 _ _).mono ?_
  rintro e w18 ⟨rfl, hb⟩
  clear x0 x1 x2
  rw [NQ.out]
  have HB18 := hid (then_w HB17.out hb)
  have HX18 := hid (HX17.out.later hb)
  clear hb
  clear HB17 HX17
  go_wp2_with fail
  refine (rn_w13 _ _).mono ?_
  rintro e w19 ⟨rfl, hb⟩
  rw [N2.out]
  have HB19 := hid (then_w HB18.out hb)
  have HX19 := hid (HX18.out.later hb)
  clear hb
  clear HB18 HX18
  have re := HRE.out
  have rp := HRP.out
  have rn := HRN.out
  have hbd := HBD.out
  have h0 := H0.out
  have bn := smB_iff.1 S2.out
  rw [Int.mul_comm] at hbd
  have hk1 : IntKind.i64.wrap (q * n) = q * n := IntWalk.i64_in _ (by omega)
  have hk2 : IntKind.i64.wrap (q * n + r) = m := by rw [re]; exact IntWalk.i64_in _ (by have := smB_iff.1 S1.out; omega)
  have hk3 : IntKind.i64.wrap (-n) = -n := IntWalk.i64_in _ (by omega)
  obtain ⟨mx, hmx⟩ : ∃ y, y = max n (-n) := ⟨_, rfl⟩
  have hM1 : n ≤ mx := by rw [hmx]; exact Int.le_max_left _ _
  have hM2 : -n ≤ mx := by rw [hmx]; exact Int.le_max_right _ _
  have hM3 : mx ≤ 1073741824 := by rw [hmx]; exact Int.max_le.2 ⟨by omega, by omega⟩
  have hm4 : IntKind.i64.wrap (-mx) = -mx := IntWalk.i64_in _ (by omega)
  have hm5 : r < mx := by rcases Int.lt_or_gt_of_ne h0 with g | g
                          · have := rn g; omega
                          · have := rp g; omega
  have hm6 : -mx < r := by rcases Int.lt_or_gt_of_ne h0 with g | g
                           · have := rn g; omega
                           · have := rp g; omega
  have hm7 : 0 < mx := by omega
  have hm8 : -mx < 0 := by omega
  rw [hmx] at hm4 hm5 hm6 hm7 hm8
  have hk5 : r = 0 → q * n = m := fun g => by rw [g, Int.add_zero] at re; exact re
  clear hbd re bn hM1 hM2 hM3 hmx
  by_cases hn : n < 0 <;> by_cases hr : r = 0
  all_goals
    try have hk6 := hk5 hr
    try have hk7 : IntKind.i64.wrap m = m := IntWalk.i64_in _ (by have := smB_iff.1 S1.out; omega)
    clear hk5
    go_wp2_with fail
    go_ret
    exact ⟨rfl, HB19.out⟩
end Go.Proofs.YtkpfmbdkfgeboaaGreat
namespace Go.Proofs.YtkpfmbdkfgeboaaGreat
open Go.ChangeShapes Go.WideShapes Go.ChangeAt Go.RowKit
set_option maxRecDepth 100000
namespace fnPrimWhole
theorem own : ownKnob Tryz.prog.godebug = none := by kernel_rfl
theorem laidOut : laidOutB Tryz.prog = true := by kernel_rfl
theorem lifted (os : Os) (started : os.Started) (H : Type) (enc : TypeId × Value → H) :
    ReturnsInHanded {} Tryz.checked os 5 .any (Rows.primWholeSpec.pre6 enc Tryz.prog Tryz.f5 Rows.primWholeRow.domain false) (Rows.primWholeSpec.post enc Tryz.prog Tryz.f5 false true false false) := by
  refine returnsInHanded_of_change (C := Tryz.checked) own started (by kernel_rfl) Tryz.func5
    (ChangeSpec.witness6 (enc := enc) (C := Tryz.checked) false ⟨#[], #[.agg #[.slice none 0 0, .int .i64 0, .int .i64 0], .int .i64 0, .int .i64 0], []⟩ 8 (by kernel_rfl) (by kernel_rfl) (by kernel_rfl) (by kernel_rfl)) ?_
  intro W base args ds gs before hval0 hW hcnd _
  have hval : ∀ (j : Nat) t v, Tryz.f5.params[j]? = some t → args[j]? = some v → Value.okWide Tryz.prog W .any base t v := hval0
  have hW' := hW
  obtain ⟨p, q, hA0, hV, rfl, hfz, hnd⟩ := hW
  have hA : DataW.TrodAll enc Tryz.prog W 0 (fun _ => true) true Tryz.f5.params.toList args.toList ds p := hA0
  rw [Tryz.params5] at hA hval
  obtain ⟨v0, v1, v2, d0, d1, d2, p0, p1, p2, rfl, rfl, rfl, h0, h1, h2⟩ := trodAll_three hA
  obtain ⟨rfl, rfl⟩ := trodVars_none hV
  obtain ⟨hp0, A0, c0, rfl, ob0, ft0, wd0⟩ := open_heap13 (hval 0 24 v0 rfl rfl) h0
  obtain ⟨i1, rfl, -, -, -⟩ := open_int Tryz.underlying3 (hval 1 3 v1 rfl rfl) h1
  obtain ⟨i2, rfl, -, -, -⟩ := open_int Tryz.underlying3 (hval 2 3 v2 rfl rfl) h2
  clear hA0 hval0
  simp only [List.append_nil] at hW'
  refine (primwhole_any13 hp0 i1 i2 A0 c0 W ob0 ft0 wd0).mono fun e W' ⟨he, hb⟩ => ?_
  subst he
  exact ⟨_, rfl, law_post laidOut (by kernel_rfl) rfl (by kernel_rfl) Tryz.underlying4 hW' rfl hb⟩
end fnPrimWhole
theorem primWhole_holds : Rows.PrimWholeSaid :=
  OpenClaim.holds_of_wide 5 Tryz.f5 rfl rfl rfl rfl rfl rfl rfl ⟨rfl, rfl, rfl, rfl, rfl⟩ rfl rfl rfl rfl rfl (by kernel_rfl) Tryz.func5 (by kernel_rfl)
    (of_decide_eq_true (by kernel_rfl)) (by unfold Func.isWrapper; first | (rw [if_pos (by decide +kernel)]; kernel_rfl) | (rw [if_neg (by decide +kernel)]; exact ⟨rfl, rfl⟩))
    (fun os started H enc _ => fnPrimWhole.lifted os started H enc)
end Go.Proofs.YtkpfmbdkfgeboaaGreat
