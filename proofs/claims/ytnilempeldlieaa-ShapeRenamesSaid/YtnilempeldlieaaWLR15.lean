/- ShapeRenames walked: whatever state and list, it answers true. -/
import Derived.Deep.CutRange
import Derived.BigRegion
import Derived.Test.YtnilempeldlieaaWSX15
import Derived.Test.YtnilempeldlieaaM16
import Derived.Test.YtnilempeldlieaaWSR15
import Derived.Test.YtnilempeldlieaaM03
import Derived.Test.YtnilempeldlieaaM19
namespace Go.Proofs.Ytnilempeldlieaa
open Go.RowKit
set_option maxRecDepth 100000
theorem rnL15 {s t : St} {pm : List Int} (ht : rn15 s pm = t) (A : Option Addr) (c : Nat) (P : Option Addr) (e : Nat) (w : World) (hs : ObsR w A s.hp.objs) (fit : s.hp.Fit) (hp : IntsR w P pm) (C : Ck15 s) (hpm : PermL pm s.hp.objs.length) : Calls Try.prog 12 #[.agg #[.slice A s.hp.objs.length c, .int .i64 s.hp.cap, .int .i64 s.hp.last, .int .i64 s.proc, .int .i64 s.ready, .int .i64 s.halt, .int .i64 s.steps, .int .i64 s.used], .slice P pm.length e] w (StO15 w t) := by subst ht; exact rrenamed_any15 s A c pm P e w hs fit hp C hpm
theorem fitC15 {s : St} (C : Ck15 s) : s.hp.Fit := by
  have hm := C.may
  refine ⟨by have := may_len hm; omega, fun o ho => ?_⟩
  have := (kind_len (ob_kind (may_all hm _ ho))).1
  exact Nat.le_trans (by exact_mod_cast this) (by decide)
set_option maxHeartbeats 4000000 in
theorem lrenames_any15 (s : St) (A : Option Addr) (c : Nat) (pm : List Int) (P : Option Addr) (e : Nat) (w : World) (hsX : ObsR w A s.hp.objs) (fitX : s.hp.Fit) (hp : IntsR w P pm) (hpl : pm.length ≤ 9223372036854775807) :
    Calls Try.prog 4 #[.agg #[.slice A s.hp.objs.length c, .int .i64 s.hp.cap, .int .i64 s.hp.last, .int .i64 s.proc, .int .i64 s.ready, .int .i64 s.halt, .int .i64 s.steps, .int .i64 s.used], .slice P pm.length e] w fun e w' => e = .returned (.bool (true)) ∧ Below w.heap.size w w' := by
  obtain ⟨w0, hw0⟩ : ∃ w0, w0 = (w.alloc (.cells #[.slice A s.hp.objs.length c, .int .i64 s.hp.cap, .int .i64 s.hp.last, .int .i64 s.proc, .int .i64 s.ready, .int .i64 s.halt, .int .i64 s.steps, .int .i64 s.used] 27)) := ⟨_, rfl⟩
  have HB0 : Hid (Below w.heap.size w w0) := by show Below _ _ _; rw [hw0]; exact below_alloc w _
  have X0 : Hid (Lies w0 (w.heap.size) 27 #[.slice A s.hp.objs.length c, .int .i64 s.hp.cap, .int .i64 s.hp.last, .int .i64 s.proc, .int .i64 s.ready, .int .i64 s.halt, .int .i64 s.steps, .int .i64 s.used]) := by
    show Lies _ _ _ _
    rw [hw0]
    have := Lies.new w 27 #[.slice A s.hp.objs.length c, .int .i64 s.hp.cap, .int .i64 s.hp.last, .int .i64 s.proc, .int .i64 s.ready, .int .i64 s.halt, .int .i64 s.steps, .int .i64 s.used]
    simpa [Hid] using this
  have OX0 := hid (hsX.below HB0.out)
  have HFX := hid fitX
  have hflX := fitX.1
  have HP0 := hid hp
  clear hsX fitX hp
  go_enter Try.func4, Try.ntmps4
  go_upto_region 1 with fail
  rw [← hw0]
  clear hw0
  have x0 := X0.out.cell 0
  have x1 := X0.out.cell 1
  have x2 := X0.out.cell 2
  have x3 := X0.out.cell 3
  have x4 := X0.out.cell 4
  have x5 := X0.out.cell 5
  have x6 := X0.out.cell 6
  have x7 := X0.out.cell 7
  simp only [List.getElem?_toArray, List.getElem?_cons_zero, List.getElem?_cons_succ] at x0 x1 x2 x3 x4 x5 x6 x7
  go_wp2_with fail
  refine (fixed15_any _).mono ?_
  rintro e w1 ⟨rfl, hb⟩
  clear x0 x1 x2 x3 x4 x5 x6 x7
  have HB1 := hid (then_w HB0.out hb)
  have X1 := hid (X0.out.later hb)
  have OX1 := hid (OX0.out.below hb)
  clear hb
  clear HB0 X0 OX0
  have x0 := X1.out.cell 0
  have x1 := X1.out.cell 1
  have x2 := X1.out.cell 2
  have x3 := X1.out.cell 3
  have x4 := X1.out.cell 4
  have x5 := X1.out.cell 5
  have x6 := X1.out.cell 6
  have x7 := X1.out.cell 7
  simp only [List.getElem?_toArray, List.getElem?_cons_zero, List.getElem?_cons_succ] at x0 x1 x2 x3 x4 x5 x6 x7
  go_wp2_with fail
  refine (small_ok s.hp A c _ OX1.out HFX.out).mono ?_
  rintro e w2 ⟨sm, rfl, hb⟩
  clear x0 x1 x2 x3 x4 x5 x6 x7
  have HB2 := hid (then_w HB1.out hb)
  have X2 := hid (X1.out.later hb)
  have OX2 := hid (OX1.out.below hb)
  clear hb
  clear HB1 X1 OX1
  cases sm
  · have x0 := X2.out.cell 0
    have x1 := X2.out.cell 1
    have x2 := X2.out.cell 2
    have x3 := X2.out.cell 3
    have x4 := X2.out.cell 4
    have x5 := X2.out.cell 5
    have x6 := X2.out.cell 6
    have x7 := X2.out.cell 7
    simp only [List.getElem?_toArray, List.getElem?_cons_zero, List.getElem?_cons_succ] at x0 x1 x2 x3 x4 x5 x6 x7
    go_wp2_with fail
    refine (fixed15_any _).mono ?_
    rintro e w3 ⟨rfl, hb⟩
    clear x0 x1 x2 x3 x4 x5 x6 x7
    have HB3 := hid (then_w HB2.out hb)
    have X3 := hid (X2.out.later hb)
    have OX3 := hid (OX2.out.below hb)
    clear hb
    clear HB2 X2 OX2
    go_wp2_with fail
    go_ret
    exact ⟨rfl, HB3.out⟩
  · by_cases q1 : 60 < s.hp.objs.length
    · have q' : (60 : Int) < (s.hp.objs.length : Int) := by omega
      have x0 := X2.out.cell 0
      have x1 := X2.out.cell 1
      have x2 := X2.out.cell 2
      have x3 := X2.out.cell 3
      have x4 := X2.out.cell 4
      have x5 := X2.out.cell 5
      have x6 := X2.out.cell 6
      have x7 := X2.out.cell 7
      simp only [List.getElem?_toArray, List.getElem?_cons_zero, List.getElem?_cons_succ] at x0 x1 x2 x3 x4 x5 x6 x7
      go_wp2_with fail
      refine (fixed15_any _).mono ?_
      rintro e w3 ⟨rfl, hb⟩
      clear x0 x1 x2 x3 x4 x5 x6 x7
      have HB3 := hid (then_w HB2.out hb)
      have X3 := hid (X2.out.later hb)
      have OX3 := hid (OX2.out.below hb)
      clear hb
      clear HB2 X2 OX2
      go_wp2_with fail
      go_ret
      exact ⟨rfl, HB3.out⟩
    · have q' : ¬ (60 : Int) < (s.hp.objs.length : Int) := by omega
      obtain ⟨ckX, hckX⟩ : ∃ x, x = ckI s := ⟨_, rfl⟩
      have HCKX := hid hckX
      clear hckX
      have x0 := X2.out.cell 0
      have x1 := X2.out.cell 1
      have x2 := X2.out.cell 2
      have x3 := X2.out.cell 3
      have x4 := X2.out.cell 4
      have x5 := X2.out.cell 5
      have x6 := X2.out.cell 6
      have x7 := X2.out.cell 7
      simp only [List.getElem?_toArray, List.getElem?_cons_zero, List.getElem?_cons_succ] at x0 x1 x2 x3 x4 x5 x6 x7
      go_wp2_with fail
      refine (rck_any15 s A c _ OX2.out HFX.out).mono ?_
      rintro e w3 ⟨rfl, hb⟩
      clear x0 x1 x2 x3 x4 x5 x6 x7
      rw [← HCKX.out]
      have HB3 := hid (then_w HB2.out hb)
      have X3 := hid (X2.out.later hb)
      have OX3 := hid (OX2.out.below hb)
      clear hb
      clear HB2 X2 OX2
      cases hx : ckB s
      · obtain rfl : ckX = 150 := HCKX.out.trans (ckI_no hx)
        clear hx
        have x0 := X3.out.cell 0
        have x1 := X3.out.cell 1
        have x2 := X3.out.cell 2
        have x3 := X3.out.cell 3
        have x4 := X3.out.cell 4
        have x5 := X3.out.cell 5
        have x6 := X3.out.cell 6
        have x7 := X3.out.cell 7
        simp only [List.getElem?_toArray, List.getElem?_cons_zero, List.getElem?_cons_succ] at x0 x1 x2 x3 x4 x5 x6 x7
        go_wp2_with fail
        refine (fixed15_any _).mono ?_
        rintro e w4 ⟨rfl, hb⟩
        clear x0 x1 x2 x3 x4 x5 x6 x7
        have HB4 := hid (then_w HB3.out hb)
        have X4 := hid (X3.out.later hb)
        have OX4 := hid (OX3.out.below hb)
        clear hb
        clear HB3 X3 OX3
        go_wp2_with fail
        go_ret
        exact ⟨rfl, HB4.out⟩
      · have HCX := hid (ck_iff.1 hx)
        obtain rfl : ckX = 0 := HCKX.out.trans (ckI_yes hx)
        have HIX := hid (ckI_yes hx)
        have HSX := hid (coS_yes hx)
        clear hx
        have x0 := X3.out.cell 0
        have x1 := X3.out.cell 1
        have x2 := X3.out.cell 2
        have x3 := X3.out.cell 3
        have x4 := X3.out.cell 4
        have x5 := X3.out.cell 5
        have x6 := X3.out.cell 6
        have x7 := X3.out.cell 7
        simp only [List.getElem?_toArray, List.getElem?_cons_zero, List.getElem?_cons_succ] at x0 x1 x2 x3 x4 x5 x6 x7
        go_wp2_with fail
        clear x0 x1 x2 x3 x4 x5 x6 x7
        refine (perm_any pm s.hp.objs.length P e _ (HP0.out.below HB3.out) hpl (by omega)).mono ?_
        rintro e2 w4 ⟨rfl, hw⟩
        obtain rfl : w3 = w4 := hw
        cases hpm : pmB pm s.hp.objs.length
        · have x0 := X3.out.cell 0
          have x1 := X3.out.cell 1
          have x2 := X3.out.cell 2
          have x3 := X3.out.cell 3
          have x4 := X3.out.cell 4
          have x5 := X3.out.cell 5
          have x6 := X3.out.cell 6
          have x7 := X3.out.cell 7
          simp only [List.getElem?_toArray, List.getElem?_cons_zero, List.getElem?_cons_succ] at x0 x1 x2 x3 x4 x5 x6 x7
          go_wp2_with fail
          refine (fixed15_any _).mono ?_
          rintro e w4 ⟨rfl, hb⟩
          clear x0 x1 x2 x3 x4 x5 x6 x7
          have HB4 := hid (then_w HB3.out hb)
          have X4 := hid (X3.out.later hb)
          have OX4 := hid (OX3.out.below hb)
          clear hb
          clear HB3 X3 OX3
          go_wp2_with fail
          go_ret
          exact ⟨rfl, HB4.out⟩
        · have HPM := hid (pmB_iff.1 hpm)
          clear hpm
          have hlen := HPM.out.1
          have hle := HCX.out.len
          have hl12 : 12 ≤ pm.length := by omega
          clear hlen hle
          obtain ⟨bp, op, rfl, hlt, hcs⟩ := HP0.out (by omega)
          have HLT := hid hlt
          have HCS := hid hcs
          clear hlt hcs
          go_wp2_with fail
          go_loopw [5] (fun i wr => ∃ k : Nat, k ≤ 12 ∧ i = .int .i64 k ∧ (∀ j < k, pm.getD j 0 = (j : Int)) ∧ Below w3.heap.size w3 wr) (fun i _ => 12 - (intOf i).toNat)
          case atStart => exact ⟨0, Nat.zero_le _, rfl, fun j hj => absurd hj (Nat.not_lt_zero _), Below.refl _ _⟩
          case round =>
            rename World => w4
            obtain ⟨k, hk, rfl, hall, hb⟩ := hrel
            have HALL := hid hall
            clear hall
            have HBK := hid hb
            have HB4 := hid (then_w HB3.out hb)
            have X4 := hid (X3.out.later hb)
            have OX4 := hid (OX3.out.below hb)
            clear hb
            clear HB3 X3 OX3
            by_cases hlt : k < 12
            · have hkl : k < pm.length := by omega
              have hkl' : (k : Int) < (pm.length : Int) := by omega
              have hk7 : (k : Int) < 12 := by omega
              obtain ⟨y, hy⟩ : ∃ y, pm[k]? = some y := ⟨_, List.getElem?_eq_getElem hkl⟩
              have HY := hid hy
              have i1 := (HB4.out.cell (p := ⟨bp, op + k, none⟩) HLT.out).trans (HCS.out k y HY.out)
              clear hy
              by_cases hyk : y = (k : Int)
              · subst hyk
                go_wp2_with fail
                go_roundw
                case rel => exact ⟨k + 1, by omega, by go_num, fun j hj => by
                  by_cases g : j < k
                  · exact HALL.out j g
                  · obtain rfl : j = k := by omega
                    rw [List.getD_eq_getElem?_getD, HY.out]; rfl, HBK.out⟩
                case measure => simp [intOf]; omega
              · have hyb : (y != (k : Int)) = true := by simpa using hyk
                go_wp2_with fail
                go_ret
                exact ⟨rfl, HB4.out⟩
            · obtain rfl : k = 12 := by omega
              clear hk hlt
              obtain ⟨a, ha⟩ : ∃ a, a = rn15 s pm := ⟨_, rfl⟩
              have HSA : Hid (ssB s a = true) := by show _ = _; rw [ha]; exact ss_rn HCX.out HPM.out HALL.out
              have HCA : Hid (Ck15 a) := ck_iff.1 (ssB_iff.1 HSA.out).2.1
              have HFA := hid (fitC15 HCA.out)
              have HA := hid ha.symm
              obtain ⟨b, hb0⟩ : ∃ b, b = cl15 a := ⟨_, rfl⟩
              obtain ⟨q, hq0⟩ : ∃ q, q = cl15 s := ⟨_, rfl⟩
              have HSB : Hid (ssB a b = true) := by show _ = _; rw [hb0]; exact ss_cl HCA.out
              have HSQ : Hid (ssB s q = true) := by show _ = _; rw [hq0]; exact ss_cl HCX.out
              have HFB : Hid b.hp.Fit := by show b.hp.Fit; rw [hb0]; exact co_fit15 HCA.out
              have HFQ : Hid q.hp.Fit := by show q.hp.Fit; rw [hq0]; exact co_fit15 HCX.out
              have HB0_ : Hid (coS a = b) := (coS_yes (ck_iff.2 HCA.out)).trans hb0.symm
              have HQ0_ : Hid (coS s = q) := (coS_yes (ck_iff.2 HCX.out)).trans hq0.symm
              have HBQ : Hid (ssB b q = true) := ss_then (ss_turn HSB.out) (ss_then (ss_turn HSA.out) HSQ.out)
              have hst := HCX.out.steps
              have hus := HCX.out.used
              have hw1 : IntKind.i64.wrap (s.steps + 1) = s.steps + 1 := IntWalk.i64_in _ (by omega)
              have hw2 : IntKind.i64.wrap (s.used + 1) = s.used + 1 := IntWalk.i64_in _ (by omega)
              have HW1 := hid hw1
              have HW2 := hid hw2
              clear ha hb0 hq0 hst hus hw1 hw2
              have x0 := X4.out.cell 0
              have x1 := X4.out.cell 1
              have x2 := X4.out.cell 2
              have x3 := X4.out.cell 3
              have x4 := X4.out.cell 4
              have x5 := X4.out.cell 5
              have x6 := X4.out.cell 6
              have x7 := X4.out.cell 7
              simp only [List.getElem?_toArray, List.getElem?_cons_zero, List.getElem?_cons_succ] at x0 x1 x2 x3 x4 x5 x6 x7
              go_wp2_with fail
              refine (rnL15 HA.out A c (some ⟨bp, op, none⟩) e _ OX4.out HFX.out (HP0.out.below HB4.out) HCX.out HPM.out).mono ?_
              rintro e w5 ⟨A2, c2, rfl, ob2, hb⟩
              clear x0 x1 x2 x3 x4 x5 x6 x7
              have HB5 := hid (then_w HB4.out hb)
              have X5 := hid (X4.out.later hb)
              have OX5 := hid (OX4.out.below hb)
              clear hb
              clear HB4 X4 OX4
              have OA5 := hid ob2
              clear ob2
              go_upto_region 9 with fail
              obtain ⟨w6, hw⟩ : ∃ x, x = w5.alloc (.cells #[.slice A2 a.hp.objs.length c2, .int .i64 a.hp.cap, .int .i64 a.hp.last, .int .i64 a.proc, .int .i64 a.ready, .int .i64 a.halt, .int .i64 a.steps, .int .i64 a.used] 27) := ⟨_, rfl⟩
              obtain ⟨br, hbx⟩ : ∃ x, x = w5.heap.size := ⟨_, rfl⟩
              have R6 : Hid (Lies w6 br 27 #[.slice A2 a.hp.objs.length c2, .int .i64 a.hp.cap, .int .i64 a.hp.last, .int .i64 a.proc, .int .i64 a.ready, .int .i64 a.halt, .int .i64 a.steps, .int .i64 a.used]) := by show Lies _ _ _ _; rw [hw, hbx]; exact Lies.new _ _ _
              have hb : Below w5.heap.size w5 w6 := by rw [hw]; exact below_alloc _ _
              rw [← hw, ← hbx]
              have ne_X_R : Hid ((w.heap.size) ≠ br) := by show _ ≠ _; rw [hbx]; exact Nat.ne_of_lt X5.out.lt
              have at_R : Hid (br = w5.heap.size) := hbx
              have le_HB_R : Hid (w.heap.size ≤ br) := by show _ ≤ _; rw [hbx]; exact HB5.out.size
              clear hbx hw
              have HALR := hid hb
              have HB6 := hid (then_w HB5.out hb)
              have X6 := hid (X5.out.later hb)
              have OX6 := hid (OX5.out.below hb)
              have OA6 := hid (OA5.out.below hb)
              clear hb
              clear HB5 X5 OX5 OA5
              have r_0 := R6.out.cell 0
              have r_1 := R6.out.cell 1
              have r_2 := R6.out.cell 2
              have r_3 := R6.out.cell 3
              have r_4 := R6.out.cell 4
              have r_5 := R6.out.cell 5
              have r_6 := R6.out.cell 6
              have r_7 := R6.out.cell 7
              simp only [List.getElem?_toArray, List.getElem?_cons_zero, List.getElem?_cons_succ] at r_0 r_1 r_2 r_3 r_4 r_5 r_6 r_7
              go_wp2_with fail
              refine (ccolL15 HB0_.out (ckI_yes (ck_iff.2 HCA.out)) A2 c2 _ OA6.out HFA.out).mono ?_
              rintro e w7 ⟨A3, c3, rfl, ob3, hb⟩
              clear r_0 r_1 r_2 r_3 r_4 r_5 r_6 r_7
              have HB7 := hid (then_w HB6.out hb)
              have X7 := hid (X6.out.later hb)
              have R7 := hid (R6.out.later hb)
              have OX7 := hid (OX6.out.below hb)
              have OA7 := hid (OA6.out.below hb)
              clear hb
              clear HB6 X6 R6 OX6 OA6
              have OB7 := hid ob3
              clear ob3
              go_upto_region 10 with fail
              obtain ⟨w8, hw⟩ : ∃ x, x = w7.alloc (.cells #[.slice A3 b.hp.objs.length c3, .int .i64 b.hp.cap, .int .i64 b.hp.last, .int .i64 b.proc, .int .i64 b.ready, .int .i64 b.halt, .int .i64 b.steps, .int .i64 b.used] 27) := ⟨_, rfl⟩
              obtain ⟨bb, hbx⟩ : ∃ x, x = w7.heap.size := ⟨_, rfl⟩
              have B8 : Hid (Lies w8 bb 27 #[.slice A3 b.hp.objs.length c3, .int .i64 b.hp.cap, .int .i64 b.hp.last, .int .i64 b.proc, .int .i64 b.ready, .int .i64 b.halt, .int .i64 b.steps, .int .i64 b.used]) := by show Lies _ _ _ _; rw [hw, hbx]; exact Lies.new _ _ _
              have hb : Below w7.heap.size w7 w8 := by rw [hw]; exact below_alloc _ _
              rw [← hw, ← hbx]
              have ne_X_B : Hid ((w.heap.size) ≠ bb) := by show _ ≠ _; rw [hbx]; exact Nat.ne_of_lt X7.out.lt
              have ne_R_B : Hid (br ≠ bb) := by show _ ≠ _; rw [hbx]; exact Nat.ne_of_lt R7.out.lt
              have at_B : Hid (bb = w7.heap.size) := hbx
              have le_HB_B : Hid (w.heap.size ≤ bb) := by show _ ≤ _; rw [hbx]; exact HB7.out.size
              clear hbx hw
              have HALB := hid hb
              have HB8 := hid (then_w HB7.out hb)
              have X8 := hid (X7.out.later hb)
              have R8 := hid (R7.out.later hb)
              have OX8 := hid (OX7.out.below hb)
              have OA8 := hid (OA7.out.below hb)
              have OB8 := hid (OB7.out.below hb)
              clear hb
              clear HB7 X7 R7 OX7 OA7 OB7
              have x0 := X8.out.cell 0
              have x1 := X8.out.cell 1
              have x2 := X8.out.cell 2
              have x3 := X8.out.cell 3
              have x4 := X8.out.cell 4
              have x5 := X8.out.cell 5
              have x6 := X8.out.cell 6
              have x7 := X8.out.cell 7
              simp only [List.getElem?_toArray, List.getElem?_cons_zero, List.getElem?_cons_succ] at x0 x1 x2 x3 x4 x5 x6 x7
              go_wp2_with fail
              refine (ccolL15 HQ0_.out HIX.out A c _ OX8.out HFX.out).mono ?_
              rintro e w9 ⟨A4, c4, rfl, ob4, hb⟩
              clear x0 x1 x2 x3 x4 x5 x6 x7
              have HB9 := hid (then_w HB8.out hb)
              have X9 := hid (X8.out.later hb)
              have R9 := hid (R8.out.later hb)
              have B9 := hid (B8.out.later hb)
              have OX9 := hid (OX8.out.below hb)
              have OA9 := hid (OA8.out.below hb)
              have OB9 := hid (OB8.out.below hb)
              clear hb
              clear HB8 X8 R8 B8 OX8 OA8 OB8
              have OQ9 := hid ob4
              clear ob4
              go_upto_region 11 with fail
              obtain ⟨w10, hw⟩ : ∃ x, x = w9.alloc (.cells #[.slice A4 q.hp.objs.length c4, .int .i64 q.hp.cap, .int .i64 q.hp.last, .int .i64 q.proc, .int .i64 q.ready, .int .i64 q.halt, .int .i64 q.steps, .int .i64 q.used] 27) := ⟨_, rfl⟩
              obtain ⟨bq, hbx⟩ : ∃ x, x = w9.heap.size := ⟨_, rfl⟩
              have Q10 : Hid (Lies w10 bq 27 #[.slice A4 q.hp.objs.length c4, .int .i64 q.hp.cap, .int .i64 q.hp.last, .int .i64 q.proc, .int .i64 q.ready, .int .i64 q.halt, .int .i64 q.steps, .int .i64 q.used]) := by show Lies _ _ _ _; rw [hw, hbx]; exact Lies.new _ _ _
              have hb : Below w9.heap.size w9 w10 := by rw [hw]; exact below_alloc _ _
              rw [← hw, ← hbx]
              have ne_X_Q : Hid ((w.heap.size) ≠ bq) := by show _ ≠ _; rw [hbx]; exact Nat.ne_of_lt X9.out.lt
              have ne_R_Q : Hid (br ≠ bq) := by show _ ≠ _; rw [hbx]; exact Nat.ne_of_lt R9.out.lt
              have ne_B_Q : Hid (bb ≠ bq) := by show _ ≠ _; rw [hbx]; exact Nat.ne_of_lt B9.out.lt
              have at_Q : Hid (bq = w9.heap.size) := hbx
              have le_HB_Q : Hid (w.heap.size ≤ bq) := by show _ ≤ _; rw [hbx]; exact HB9.out.size
              clear hbx hw
              have HALQ := hid hb
              have HB10 := hid (then_w HB9.out hb)
              have X10 := hid (X9.out.later hb)
              have R10 := hid (R9.out.later hb)
              have B10 := hid (B9.out.later hb)
              have OX10 := hid (OX9.out.below hb)
              have OA10 := hid (OA9.out.below hb)
              have OB10 := hid (OB9.out.below hb)
              have OQ10 := hid (OQ9.out.below hb)
              clear hb
              clear HB9 X9 R9 B9 OX9 OA9 OB9 OQ9
              have x0 := X10.out.cell 0
              have x1 := X10.out.cell 1
              have x2 := X10.out.cell 2
              have x3 := X10.out.cell 3
              have x4 := X10.out.cell 4
              have x5 := X10.out.cell 5
              have x6 := X10.out.cell 6
              have x7 := X10.out.cell 7
              simp only [List.getElem?_toArray, List.getElem?_cons_zero, List.getElem?_cons_succ] at x0 x1 x2 x3 x4 x5 x6 x7
              have HSZ := hid HB10.out.size
              have HLTX := hid X10.out.lt
              have HLTR := hid R10.out.lt
              have HLTB := hid B10.out.lt
              have HLTQ := hid Q10.out.lt
              go_cut [11, 12] from 66 to 67 (fun a b wx => ∃ g1 g2 : Nat, a = .pointer (some ⟨g1, 0, none⟩) ∧ b = .pointer (some ⟨g2, 0, none⟩) ∧ g1 ≠ g2 ∧ w10.heap.size ≤ g1 ∧ w10.heap.size ≤ g2 ∧ Lies wx g1 27 #[.slice A s.hp.objs.length c, .int .i64 s.hp.cap, .int .i64 s.hp.last, .int .i64 s.proc, .int .i64 s.ready, .int .i64 s.halt, .int .i64 s.steps, .int .i64 s.used] ∧ Lies wx g2 27 #[.slice A s.hp.objs.length c, .int .i64 s.hp.cap, .int .i64 s.hp.last, .int .i64 s.proc, .int .i64 s.ready, .int .i64 s.halt, .int .i64 s.steps, .int .i64 s.used] ∧ Below w10.heap.size w10 wx)
              case first =>
                have xa0 : ∀ o, (w10.alloc o).cell? ⟨(w.heap.size), 0, none⟩ = some (.slice A s.hp.objs.length c) := fun o => cell_old x0
                have xb0 : ∀ o p, ((w10.alloc o).alloc p).cell? ⟨(w.heap.size), 0, none⟩ = some (.slice A s.hp.objs.length c) := fun o p => cell_old (cell_old x0)
                have xa1 : ∀ o, (w10.alloc o).cell? ⟨(w.heap.size), 1, none⟩ = some (.int .i64 s.hp.cap) := fun o => cell_old x1
                have xb1 : ∀ o p, ((w10.alloc o).alloc p).cell? ⟨(w.heap.size), 1, none⟩ = some (.int .i64 s.hp.cap) := fun o p => cell_old (cell_old x1)
                have xa2 : ∀ o, (w10.alloc o).cell? ⟨(w.heap.size), 2, none⟩ = some (.int .i64 s.hp.last) := fun o => cell_old x2
                have xb2 : ∀ o p, ((w10.alloc o).alloc p).cell? ⟨(w.heap.size), 2, none⟩ = some (.int .i64 s.hp.last) := fun o p => cell_old (cell_old x2)
                have xa3 : ∀ o, (w10.alloc o).cell? ⟨(w.heap.size), 3, none⟩ = some (.int .i64 s.proc) := fun o => cell_old x3
                have xb3 : ∀ o p, ((w10.alloc o).alloc p).cell? ⟨(w.heap.size), 3, none⟩ = some (.int .i64 s.proc) := fun o p => cell_old (cell_old x3)
                have xa4 : ∀ o, (w10.alloc o).cell? ⟨(w.heap.size), 4, none⟩ = some (.int .i64 s.ready) := fun o => cell_old x4
                have xb4 : ∀ o p, ((w10.alloc o).alloc p).cell? ⟨(w.heap.size), 4, none⟩ = some (.int .i64 s.ready) := fun o p => cell_old (cell_old x4)
                have xa5 : ∀ o, (w10.alloc o).cell? ⟨(w.heap.size), 5, none⟩ = some (.int .i64 s.halt) := fun o => cell_old x5
                have xb5 : ∀ o p, ((w10.alloc o).alloc p).cell? ⟨(w.heap.size), 5, none⟩ = some (.int .i64 s.halt) := fun o p => cell_old (cell_old x5)
                have xa6 : ∀ o, (w10.alloc o).cell? ⟨(w.heap.size), 6, none⟩ = some (.int .i64 s.steps) := fun o => cell_old x6
                have xb6 : ∀ o p, ((w10.alloc o).alloc p).cell? ⟨(w.heap.size), 6, none⟩ = some (.int .i64 s.steps) := fun o p => cell_old (cell_old x6)
                have xa7 : ∀ o, (w10.alloc o).cell? ⟨(w.heap.size), 7, none⟩ = some (.int .i64 s.used) := fun o => cell_old x7
                have xb7 : ∀ o p, ((w10.alloc o).alloc p).cell? ⟨(w.heap.size), 7, none⟩ = some (.int .i64 s.used) := fun o p => cell_old (cell_old x7)
                go_region
                all_goals
                  go_wp2_with fail
                  go_meet
                  have l1 : Lies ((w10.alloc (.cells #[.slice A s.hp.objs.length c, .int .i64 s.hp.cap, .int .i64 s.hp.last, .int .i64 s.proc, .int .i64 s.ready, .int .i64 s.halt, .int .i64 s.steps, .int .i64 s.used] 27)).alloc (.cells #[.slice A s.hp.objs.length c, .int .i64 s.hp.cap, .int .i64 s.hp.last, .int .i64 s.proc, .int .i64 s.ready, .int .i64 s.halt, .int .i64 s.steps, .int .i64 s.used] 27)) w10.heap.size 27 #[.slice A s.hp.objs.length c, .int .i64 s.hp.cap, .int .i64 s.hp.last, .int .i64 s.proc, .int .i64 s.ready, .int .i64 s.halt, .int .i64 s.steps, .int .i64 s.used] := (Lies.new _ _ _).alloc _
                  have l2 : Lies ((w10.alloc (.cells #[.slice A s.hp.objs.length c, .int .i64 s.hp.cap, .int .i64 s.hp.last, .int .i64 s.proc, .int .i64 s.ready, .int .i64 s.halt, .int .i64 s.steps, .int .i64 s.used] 27)).alloc (.cells #[.slice A s.hp.objs.length c, .int .i64 s.hp.cap, .int .i64 s.hp.last, .int .i64 s.proc, .int .i64 s.ready, .int .i64 s.halt, .int .i64 s.steps, .int .i64 s.used] 27)) (w10.heap.size + 1) 27 #[.slice A s.hp.objs.length c, .int .i64 s.hp.cap, .int .i64 s.hp.last, .int .i64 s.proc, .int .i64 s.ready, .int .i64 s.halt, .int .i64 s.steps, .int .i64 s.used] := by
                    have := Lies.new (w10.alloc (.cells #[.slice A s.hp.objs.length c, .int .i64 s.hp.cap, .int .i64 s.hp.last, .int .i64 s.proc, .int .i64 s.ready, .int .i64 s.halt, .int .i64 s.steps, .int .i64 s.used] 27)) 27 #[.slice A s.hp.objs.length c, .int .i64 s.hp.cap, .int .i64 s.hp.last, .int .i64 s.proc, .int .i64 s.ready, .int .i64 s.halt, .int .i64 s.steps, .int .i64 s.used]
                    simpa using this
                  first
                    | exact ⟨_, _, rfl, rfl, by omega, by omega, by omega, l1.drew, l2.drew, (below_alloc2 _ _ _).drew⟩
                    | exact ⟨_, _, rfl, rfl, by omega, by omega, by omega, l2.drew, l1.drew, (below_alloc2 _ _ _).drew⟩
              case rest =>
                rename World => w11
                obtain ⟨bt, bu, rfl, rfl, hne, h1, h2, l1, l2, hb⟩ := hcut
                have HNE := hid hne
                have HG1 := hid h1
                have HG2 := hid h2
                clear hne h1 h2
                clear x0 x1 x2 x3 x4 x5 x6 x7
                have HB11 := hid (then_w HB10.out hb)
                have X11 := hid (X10.out.later hb)
                have R11 := hid (R10.out.later hb)
                have B11 := hid (B10.out.later hb)
                have Q11 := hid (Q10.out.later hb)
                have OX11 := hid (OX10.out.below hb)
                have OA11 := hid (OA10.out.below hb)
                have OB11 := hid (OB10.out.below hb)
                have OQ11 := hid (OQ10.out.below hb)
                have T11 := hid l1
                have U11 := hid l2
                have BT11 := hid hb
                clear l1 l2 hb
                have OX_BT := OX10
                have OA_BT := OA10
                have OB_BT := OB10
                have OQ_BT := OQ10
                clear HB10 X10 R10 B10 Q10 OX10 OA10 OB10 OQ10
                have le_HB_T : Hid (w.heap.size ≤ bt) := Nat.le_trans HSZ.out HG1.out
                have le_HB_U : Hid (w.heap.size ≤ bu) := Nat.le_trans HSZ.out HG2.out
                have le_BT_T := HG1
                have le_BT_U := HG2
                have ne_X_T : Hid ((w.heap.size) ≠ bt) := Nat.ne_of_lt (Nat.lt_of_lt_of_le HLTX.out HG1.out)
                have ne_X_U : Hid ((w.heap.size) ≠ bu) := Nat.ne_of_lt (Nat.lt_of_lt_of_le HLTX.out HG2.out)
                have ne_R_T : Hid (br ≠ bt) := Nat.ne_of_lt (Nat.lt_of_lt_of_le HLTR.out HG1.out)
                have ne_R_U : Hid (br ≠ bu) := Nat.ne_of_lt (Nat.lt_of_lt_of_le HLTR.out HG2.out)
                have ne_B_T : Hid (bb ≠ bt) := Nat.ne_of_lt (Nat.lt_of_lt_of_le HLTB.out HG1.out)
                have ne_B_U : Hid (bb ≠ bu) := Nat.ne_of_lt (Nat.lt_of_lt_of_le HLTB.out HG2.out)
                have ne_Q_T : Hid (bq ≠ bt) := Nat.ne_of_lt (Nat.lt_of_lt_of_le HLTQ.out HG1.out)
                have ne_Q_U : Hid (bq ≠ bu) := Nat.ne_of_lt (Nat.lt_of_lt_of_le HLTQ.out HG2.out)
                have hw1 := HW1.out
                have t_0 := T11.out.cell 0
                have t_1 := T11.out.cell 1
                have t_2 := T11.out.cell 2
                have t_3 := T11.out.cell 3
                have t_4 := T11.out.cell 4
                have t_5 := T11.out.cell 5
                have t_6 := T11.out.cell 6
                have t_7 := T11.out.cell 7
                have t_f0 := T11.out.frozen 0
                have t_f1 := T11.out.frozen 1
                have t_f2 := T11.out.frozen 2
                have t_f3 := T11.out.frozen 3
                have t_f4 := T11.out.frozen 4
                have t_f5 := T11.out.frozen 5
                have t_f6 := T11.out.frozen 6
                have t_f7 := T11.out.frozen 7
                simp only [List.getElem?_toArray, List.getElem?_cons_zero, List.getElem?_cons_succ] at t_0 t_1 t_2 t_3 t_4 t_5 t_6 t_7
                go_upto_region 13 with fail
                clear t_f0 t_f1 t_f2 t_f3 t_f4 t_f5 t_f6 t_f7 t_0 t_1 t_2 t_3 t_4 t_5 t_6 t_7
                clear hw1
                obtain ⟨w12, hw⟩ : ∃ x, x = (w11.setCell ⟨bt, 6, none⟩ (.int .i64 (s.steps + 1))) := ⟨_, rfl⟩
                rw [← hw]
                have hw2 : w12 = (sets15 w11 bt 6 [.int .i64 (s.steps + 1)]) := hw
                clear hw
                have HB12 : Hid (Below w.heap.size w w12) := by show Below _ _ _; rw [hw2]; exact (Below.sets15 le_HB_T.out [.int .i64 (s.steps + 1)] 6 HB11.out)
                have BT12 : Hid (Below w10.heap.size w10 w12) := by show Below _ _ _; rw [hw2]; exact (Below.sets15 le_BT_T.out [.int .i64 (s.steps + 1)] 6 BT11.out)
                have X12 : Hid (Lies w12 (w.heap.size) 27 #[.slice A s.hp.objs.length c, .int .i64 s.hp.cap, .int .i64 s.hp.last, .int .i64 s.proc, .int .i64 s.ready, .int .i64 s.halt, .int .i64 s.steps, .int .i64 s.used]) := by show Lies _ _ _ _; rw [hw2]; exact (Lies.sets15_far ne_X_T.out [.int .i64 (s.steps + 1)] 6 X11.out)
                have R12 : Hid (Lies w12 br 27 #[.slice A2 a.hp.objs.length c2, .int .i64 a.hp.cap, .int .i64 a.hp.last, .int .i64 a.proc, .int .i64 a.ready, .int .i64 a.halt, .int .i64 a.steps, .int .i64 a.used]) := by show Lies _ _ _ _; rw [hw2]; exact (Lies.sets15_far ne_R_T.out [.int .i64 (s.steps + 1)] 6 R11.out)
                have B12 : Hid (Lies w12 bb 27 #[.slice A3 b.hp.objs.length c3, .int .i64 b.hp.cap, .int .i64 b.hp.last, .int .i64 b.proc, .int .i64 b.ready, .int .i64 b.halt, .int .i64 b.steps, .int .i64 b.used]) := by show Lies _ _ _ _; rw [hw2]; exact (Lies.sets15_far ne_B_T.out [.int .i64 (s.steps + 1)] 6 B11.out)
                have Q12 : Hid (Lies w12 bq 27 #[.slice A4 q.hp.objs.length c4, .int .i64 q.hp.cap, .int .i64 q.hp.last, .int .i64 q.proc, .int .i64 q.ready, .int .i64 q.halt, .int .i64 q.steps, .int .i64 q.used]) := by show Lies _ _ _ _; rw [hw2]; exact (Lies.sets15_far ne_Q_T.out [.int .i64 (s.steps + 1)] 6 Q11.out)
                have T12 : Hid (Lies w12 bt 27 #[.slice A s.hp.objs.length c, .int .i64 s.hp.cap, .int .i64 s.hp.last, .int .i64 s.proc, .int .i64 s.ready, .int .i64 s.halt, .int .i64 (s.steps + 1), .int .i64 s.used]) := by show Lies _ _ _ _; rw [hw2]; exact (T11.out.s1at6_15 (.int .i64 (s.steps + 1)))
                have U12 : Hid (Lies w12 bu 27 #[.slice A s.hp.objs.length c, .int .i64 s.hp.cap, .int .i64 s.hp.last, .int .i64 s.proc, .int .i64 s.ready, .int .i64 s.halt, .int .i64 s.steps, .int .i64 s.used]) := by show Lies _ _ _ _; rw [hw2]; exact (Lies.sets15_far HNE.out.symm [.int .i64 (s.steps + 1)] 6 U11.out)
                clear hw2
                clear HB11 X11 R11 B11 Q11 T11 U11 OX11 OA11 OB11 OQ11 BT11
                have hw2 := HW2.out
                have u_0 := U12.out.cell 0
                have u_1 := U12.out.cell 1
                have u_2 := U12.out.cell 2
                have u_3 := U12.out.cell 3
                have u_4 := U12.out.cell 4
                have u_5 := U12.out.cell 5
                have u_6 := U12.out.cell 6
                have u_7 := U12.out.cell 7
                have u_f0 := U12.out.frozen 0
                have u_f1 := U12.out.frozen 1
                have u_f2 := U12.out.frozen 2
                have u_f3 := U12.out.frozen 3
                have u_f4 := U12.out.frozen 4
                have u_f5 := U12.out.frozen 5
                have u_f6 := U12.out.frozen 6
                have u_f7 := U12.out.frozen 7
                simp only [List.getElem?_toArray, List.getElem?_cons_zero, List.getElem?_cons_succ] at u_0 u_1 u_2 u_3 u_4 u_5 u_6 u_7
                go_upto_region 14 with fail
                clear u_f0 u_f1 u_f2 u_f3 u_f4 u_f5 u_f6 u_f7 u_0 u_1 u_2 u_3 u_4 u_5 u_6 u_7
                clear hw2
                obtain ⟨w13, hw⟩ : ∃ x, x = (w12.setCell ⟨bu, 7, none⟩ (.int .i64 (s.used + 1))) := ⟨_, rfl⟩
                rw [← hw]
                have hw2 : w13 = (sets15 w12 bu 7 [.int .i64 (s.used + 1)]) := hw
                clear hw
                have HB13 : Hid (Below w.heap.size w w13) := by show Below _ _ _; rw [hw2]; exact (Below.sets15 le_HB_U.out [.int .i64 (s.used + 1)] 7 HB12.out)
                have BT13 : Hid (Below w10.heap.size w10 w13) := by show Below _ _ _; rw [hw2]; exact (Below.sets15 le_BT_U.out [.int .i64 (s.used + 1)] 7 BT12.out)
                have X13 : Hid (Lies w13 (w.heap.size) 27 #[.slice A s.hp.objs.length c, .int .i64 s.hp.cap, .int .i64 s.hp.last, .int .i64 s.proc, .int .i64 s.ready, .int .i64 s.halt, .int .i64 s.steps, .int .i64 s.used]) := by show Lies _ _ _ _; rw [hw2]; exact (Lies.sets15_far ne_X_U.out [.int .i64 (s.used + 1)] 7 X12.out)
                have R13 : Hid (Lies w13 br 27 #[.slice A2 a.hp.objs.length c2, .int .i64 a.hp.cap, .int .i64 a.hp.last, .int .i64 a.proc, .int .i64 a.ready, .int .i64 a.halt, .int .i64 a.steps, .int .i64 a.used]) := by show Lies _ _ _ _; rw [hw2]; exact (Lies.sets15_far ne_R_U.out [.int .i64 (s.used + 1)] 7 R12.out)
                have B13 : Hid (Lies w13 bb 27 #[.slice A3 b.hp.objs.length c3, .int .i64 b.hp.cap, .int .i64 b.hp.last, .int .i64 b.proc, .int .i64 b.ready, .int .i64 b.halt, .int .i64 b.steps, .int .i64 b.used]) := by show Lies _ _ _ _; rw [hw2]; exact (Lies.sets15_far ne_B_U.out [.int .i64 (s.used + 1)] 7 B12.out)
                have Q13 : Hid (Lies w13 bq 27 #[.slice A4 q.hp.objs.length c4, .int .i64 q.hp.cap, .int .i64 q.hp.last, .int .i64 q.proc, .int .i64 q.ready, .int .i64 q.halt, .int .i64 q.steps, .int .i64 q.used]) := by show Lies _ _ _ _; rw [hw2]; exact (Lies.sets15_far ne_Q_U.out [.int .i64 (s.used + 1)] 7 Q12.out)
                have T13 : Hid (Lies w13 bt 27 #[.slice A s.hp.objs.length c, .int .i64 s.hp.cap, .int .i64 s.hp.last, .int .i64 s.proc, .int .i64 s.ready, .int .i64 s.halt, .int .i64 (s.steps + 1), .int .i64 s.used]) := by show Lies _ _ _ _; rw [hw2]; exact (Lies.sets15_far HNE.out [.int .i64 (s.used + 1)] 7 T12.out)
                have U13 : Hid (Lies w13 bu 27 #[.slice A s.hp.objs.length c, .int .i64 s.hp.cap, .int .i64 s.hp.last, .int .i64 s.proc, .int .i64 s.ready, .int .i64 s.halt, .int .i64 s.steps, .int .i64 (s.used + 1)]) := by show Lies _ _ _ _; rw [hw2]; exact (U12.out.s1at7_15 (.int .i64 (s.used + 1)))
                clear hw2
                clear HB12 X12 R12 B12 Q12 T12 U12 BT12
                have OX13 := hid (OX_BT.out.below BT13.out)
                have OA13 := hid (OA_BT.out.below BT13.out)
                have OB13 := hid (OB_BT.out.below BT13.out)
                have OQ13 := hid (OQ_BT.out.below BT13.out)
                clear BT13
                have HNT : Hid (ssB s ⟨s.hp, s.proc, s.ready, s.halt, s.steps + 1, s.used⟩ = false) := ssB_no fun h => by have h4 : s.steps = s.steps + 1 := h.2.2.2.1; omega
                have HNU : Hid (ssB s ⟨s.hp, s.proc, s.ready, s.halt, s.steps, s.used + 1⟩ = false) := ssB_no fun h => by have h4 : s.used = s.used + 1 := h.2.2.2.2.1; omega
                have x0 := X13.out.cell 0
                have x1 := X13.out.cell 1
                have x2 := X13.out.cell 2
                have x3 := X13.out.cell 3
                have x4 := X13.out.cell 4
                have x5 := X13.out.cell 5
                have x6 := X13.out.cell 6
                have x7 := X13.out.cell 7
                simp only [List.getElem?_toArray, List.getElem?_cons_zero, List.getElem?_cons_succ] at x0 x1 x2 x3 x4 x5 x6 x7
                have r_0 := R13.out.cell 0
                have r_1 := R13.out.cell 1
                have r_2 := R13.out.cell 2
                have r_3 := R13.out.cell 3
                have r_4 := R13.out.cell 4
                have r_5 := R13.out.cell 5
                have r_6 := R13.out.cell 6
                have r_7 := R13.out.cell 7
                simp only [List.getElem?_toArray, List.getElem?_cons_zero, List.getElem?_cons_succ] at r_0 r_1 r_2 r_3 r_4 r_5 r_6 r_7
                have b_0 := B13.out.cell 0
                have b_1 := B13.out.cell 1
                have b_2 := B13.out.cell 2
                have b_3 := B13.out.cell 3
                have b_4 := B13.out.cell 4
                have b_5 := B13.out.cell 5
                have b_6 := B13.out.cell 6
                have b_7 := B13.out.cell 7
                simp only [List.getElem?_toArray, List.getElem?_cons_zero, List.getElem?_cons_succ] at b_0 b_1 b_2 b_3 b_4 b_5 b_6 b_7
                have q_0 := Q13.out.cell 0
                have q_1 := Q13.out.cell 1
                have q_2 := Q13.out.cell 2
                have q_3 := Q13.out.cell 3
                have q_4 := Q13.out.cell 4
                have q_5 := Q13.out.cell 5
                have q_6 := Q13.out.cell 6
                have q_7 := Q13.out.cell 7
                simp only [List.getElem?_toArray, List.getElem?_cons_zero, List.getElem?_cons_succ] at q_0 q_1 q_2 q_3 q_4 q_5 q_6 q_7
                have t_0 := T13.out.cell 0
                have t_1 := T13.out.cell 1
                have t_2 := T13.out.cell 2
                have t_3 := T13.out.cell 3
                have t_4 := T13.out.cell 4
                have t_5 := T13.out.cell 5
                have t_6 := T13.out.cell 6
                have t_7 := T13.out.cell 7
                simp only [List.getElem?_toArray, List.getElem?_cons_zero, List.getElem?_cons_succ] at t_0 t_1 t_2 t_3 t_4 t_5 t_6 t_7
                have u_0 := U13.out.cell 0
                have u_1 := U13.out.cell 1
                have u_2 := U13.out.cell 2
                have u_3 := U13.out.cell 3
                have u_4 := U13.out.cell 4
                have u_5 := U13.out.cell 5
                have u_6 := U13.out.cell 6
                have u_7 := U13.out.cell 7
                simp only [List.getElem?_toArray, List.getElem?_cons_zero, List.getElem?_cons_succ] at u_0 u_1 u_2 u_3 u_4 u_5 u_6 u_7
                go_wp2_with fail
                refine (csameL15 (ss_turn HSA.out) A2 c2 A c _ OA13.out HFA.out OX13.out HFX.out).mono ?_
                rintro e w14 ⟨rfl, hb⟩
                clear x0 x1 x2 x3 x4 x5 x6 x7 r_0 r_1 r_2 r_3 r_4 r_5 r_6 r_7 b_0 b_1 b_2 b_3 b_4 b_5 b_6 b_7 q_0 q_1 q_2 q_3 q_4 q_5 q_6 q_7 t_0 t_1 t_2 t_3 t_4 t_5 t_6 t_7 u_0 u_1 u_2 u_3 u_4 u_5 u_6 u_7
                have HB14 := hid (then_w HB13.out hb)
                have X14 := hid (X13.out.later hb)
                have R14 := hid (R13.out.later hb)
                have B14 := hid (B13.out.later hb)
                have Q14 := hid (Q13.out.later hb)
                have T14 := hid (T13.out.later hb)
                have U14 := hid (U13.out.later hb)
                have OX14 := hid (OX13.out.below hb)
                have OA14 := hid (OA13.out.below hb)
                have OB14 := hid (OB13.out.below hb)
                have OQ14 := hid (OQ13.out.below hb)
                clear hb
                clear HB13 X13 R13 B13 Q13 T13 U13 OX13 OA13 OB13 OQ13
                have x0 := X14.out.cell 0
                have x1 := X14.out.cell 1
                have x2 := X14.out.cell 2
                have x3 := X14.out.cell 3
                have x4 := X14.out.cell 4
                have x5 := X14.out.cell 5
                have x6 := X14.out.cell 6
                have x7 := X14.out.cell 7
                simp only [List.getElem?_toArray, List.getElem?_cons_zero, List.getElem?_cons_succ] at x0 x1 x2 x3 x4 x5 x6 x7
                have r_0 := R14.out.cell 0
                have r_1 := R14.out.cell 1
                have r_2 := R14.out.cell 2
                have r_3 := R14.out.cell 3
                have r_4 := R14.out.cell 4
                have r_5 := R14.out.cell 5
                have r_6 := R14.out.cell 6
                have r_7 := R14.out.cell 7
                simp only [List.getElem?_toArray, List.getElem?_cons_zero, List.getElem?_cons_succ] at r_0 r_1 r_2 r_3 r_4 r_5 r_6 r_7
                have b_0 := B14.out.cell 0
                have b_1 := B14.out.cell 1
                have b_2 := B14.out.cell 2
                have b_3 := B14.out.cell 3
                have b_4 := B14.out.cell 4
                have b_5 := B14.out.cell 5
                have b_6 := B14.out.cell 6
                have b_7 := B14.out.cell 7
                simp only [List.getElem?_toArray, List.getElem?_cons_zero, List.getElem?_cons_succ] at b_0 b_1 b_2 b_3 b_4 b_5 b_6 b_7
                have q_0 := Q14.out.cell 0
                have q_1 := Q14.out.cell 1
                have q_2 := Q14.out.cell 2
                have q_3 := Q14.out.cell 3
                have q_4 := Q14.out.cell 4
                have q_5 := Q14.out.cell 5
                have q_6 := Q14.out.cell 6
                have q_7 := Q14.out.cell 7
                simp only [List.getElem?_toArray, List.getElem?_cons_zero, List.getElem?_cons_succ] at q_0 q_1 q_2 q_3 q_4 q_5 q_6 q_7
                have t_0 := T14.out.cell 0
                have t_1 := T14.out.cell 1
                have t_2 := T14.out.cell 2
                have t_3 := T14.out.cell 3
                have t_4 := T14.out.cell 4
                have t_5 := T14.out.cell 5
                have t_6 := T14.out.cell 6
                have t_7 := T14.out.cell 7
                simp only [List.getElem?_toArray, List.getElem?_cons_zero, List.getElem?_cons_succ] at t_0 t_1 t_2 t_3 t_4 t_5 t_6 t_7
                have u_0 := U14.out.cell 0
                have u_1 := U14.out.cell 1
                have u_2 := U14.out.cell 2
                have u_3 := U14.out.cell 3
                have u_4 := U14.out.cell 4
                have u_5 := U14.out.cell 5
                have u_6 := U14.out.cell 6
                have u_7 := U14.out.cell 7
                simp only [List.getElem?_toArray, List.getElem?_cons_zero, List.getElem?_cons_succ] at u_0 u_1 u_2 u_3 u_4 u_5 u_6 u_7
                go_wp2_with fail
                refine (csameL15 HBQ.out A3 c3 A4 c4 _ OB14.out HFB.out OQ14.out HFQ.out).mono ?_
                rintro e w15 ⟨rfl, hb⟩
                clear x0 x1 x2 x3 x4 x5 x6 x7 r_0 r_1 r_2 r_3 r_4 r_5 r_6 r_7 b_0 b_1 b_2 b_3 b_4 b_5 b_6 b_7 q_0 q_1 q_2 q_3 q_4 q_5 q_6 q_7 t_0 t_1 t_2 t_3 t_4 t_5 t_6 t_7 u_0 u_1 u_2 u_3 u_4 u_5 u_6 u_7
                have HB15 := hid (then_w HB14.out hb)
                have X15 := hid (X14.out.later hb)
                have R15 := hid (R14.out.later hb)
                have B15 := hid (B14.out.later hb)
                have Q15 := hid (Q14.out.later hb)
                have T15 := hid (T14.out.later hb)
                have U15 := hid (U14.out.later hb)
                have OX15 := hid (OX14.out.below hb)
                have OA15 := hid (OA14.out.below hb)
                have OB15 := hid (OB14.out.below hb)
                have OQ15 := hid (OQ14.out.below hb)
                clear hb
                clear HB14 X14 R14 B14 Q14 T14 U14 OX14 OA14 OB14 OQ14
                have x0 := X15.out.cell 0
                have x1 := X15.out.cell 1
                have x2 := X15.out.cell 2
                have x3 := X15.out.cell 3
                have x4 := X15.out.cell 4
                have x5 := X15.out.cell 5
                have x6 := X15.out.cell 6
                have x7 := X15.out.cell 7
                simp only [List.getElem?_toArray, List.getElem?_cons_zero, List.getElem?_cons_succ] at x0 x1 x2 x3 x4 x5 x6 x7
                have r_0 := R15.out.cell 0
                have r_1 := R15.out.cell 1
                have r_2 := R15.out.cell 2
                have r_3 := R15.out.cell 3
                have r_4 := R15.out.cell 4
                have r_5 := R15.out.cell 5
                have r_6 := R15.out.cell 6
                have r_7 := R15.out.cell 7
                simp only [List.getElem?_toArray, List.getElem?_cons_zero, List.getElem?_cons_succ] at r_0 r_1 r_2 r_3 r_4 r_5 r_6 r_7
                have b_0 := B15.out.cell 0
                have b_1 := B15.out.cell 1
                have b_2 := B15.out.cell 2
                have b_3 := B15.out.cell 3
                have b_4 := B15.out.cell 4
                have b_5 := B15.out.cell 5
                have b_6 := B15.out.cell 6
                have b_7 := B15.out.cell 7
                simp only [List.getElem?_toArray, List.getElem?_cons_zero, List.getElem?_cons_succ] at b_0 b_1 b_2 b_3 b_4 b_5 b_6 b_7
                have q_0 := Q15.out.cell 0
                have q_1 := Q15.out.cell 1
                have q_2 := Q15.out.cell 2
                have q_3 := Q15.out.cell 3
                have q_4 := Q15.out.cell 4
                have q_5 := Q15.out.cell 5
                have q_6 := Q15.out.cell 6
                have q_7 := Q15.out.cell 7
                simp only [List.getElem?_toArray, List.getElem?_cons_zero, List.getElem?_cons_succ] at q_0 q_1 q_2 q_3 q_4 q_5 q_6 q_7
                have t_0 := T15.out.cell 0
                have t_1 := T15.out.cell 1
                have t_2 := T15.out.cell 2
                have t_3 := T15.out.cell 3
                have t_4 := T15.out.cell 4
                have t_5 := T15.out.cell 5
                have t_6 := T15.out.cell 6
                have t_7 := T15.out.cell 7
                simp only [List.getElem?_toArray, List.getElem?_cons_zero, List.getElem?_cons_succ] at t_0 t_1 t_2 t_3 t_4 t_5 t_6 t_7
                have u_0 := U15.out.cell 0
                have u_1 := U15.out.cell 1
                have u_2 := U15.out.cell 2
                have u_3 := U15.out.cell 3
                have u_4 := U15.out.cell 4
                have u_5 := U15.out.cell 5
                have u_6 := U15.out.cell 6
                have u_7 := U15.out.cell 7
                simp only [List.getElem?_toArray, List.getElem?_cons_zero, List.getElem?_cons_succ] at u_0 u_1 u_2 u_3 u_4 u_5 u_6 u_7
                go_wp2_with fail
                refine (csameL15 HSB.out A2 c2 A3 c3 _ OA15.out HFA.out OB15.out HFB.out).mono ?_
                rintro e w16 ⟨rfl, hb⟩
                clear x0 x1 x2 x3 x4 x5 x6 x7 r_0 r_1 r_2 r_3 r_4 r_5 r_6 r_7 b_0 b_1 b_2 b_3 b_4 b_5 b_6 b_7 q_0 q_1 q_2 q_3 q_4 q_5 q_6 q_7 t_0 t_1 t_2 t_3 t_4 t_5 t_6 t_7 u_0 u_1 u_2 u_3 u_4 u_5 u_6 u_7
                have HB16 := hid (then_w HB15.out hb)
                have X16 := hid (X15.out.later hb)
                have R16 := hid (R15.out.later hb)
                have B16 := hid (B15.out.later hb)
                have Q16 := hid (Q15.out.later hb)
                have T16 := hid (T15.out.later hb)
                have U16 := hid (U15.out.later hb)
                have OX16 := hid (OX15.out.below hb)
                have OA16 := hid (OA15.out.below hb)
                have OB16 := hid (OB15.out.below hb)
                have OQ16 := hid (OQ15.out.below hb)
                clear hb
                clear HB15 X15 R15 B15 Q15 T15 U15 OX15 OA15 OB15 OQ15
                have x0 := X16.out.cell 0
                have x1 := X16.out.cell 1
                have x2 := X16.out.cell 2
                have x3 := X16.out.cell 3
                have x4 := X16.out.cell 4
                have x5 := X16.out.cell 5
                have x6 := X16.out.cell 6
                have x7 := X16.out.cell 7
                simp only [List.getElem?_toArray, List.getElem?_cons_zero, List.getElem?_cons_succ] at x0 x1 x2 x3 x4 x5 x6 x7
                have r_0 := R16.out.cell 0
                have r_1 := R16.out.cell 1
                have r_2 := R16.out.cell 2
                have r_3 := R16.out.cell 3
                have r_4 := R16.out.cell 4
                have r_5 := R16.out.cell 5
                have r_6 := R16.out.cell 6
                have r_7 := R16.out.cell 7
                simp only [List.getElem?_toArray, List.getElem?_cons_zero, List.getElem?_cons_succ] at r_0 r_1 r_2 r_3 r_4 r_5 r_6 r_7
                have b_0 := B16.out.cell 0
                have b_1 := B16.out.cell 1
                have b_2 := B16.out.cell 2
                have b_3 := B16.out.cell 3
                have b_4 := B16.out.cell 4
                have b_5 := B16.out.cell 5
                have b_6 := B16.out.cell 6
                have b_7 := B16.out.cell 7
                simp only [List.getElem?_toArray, List.getElem?_cons_zero, List.getElem?_cons_succ] at b_0 b_1 b_2 b_3 b_4 b_5 b_6 b_7
                have q_0 := Q16.out.cell 0
                have q_1 := Q16.out.cell 1
                have q_2 := Q16.out.cell 2
                have q_3 := Q16.out.cell 3
                have q_4 := Q16.out.cell 4
                have q_5 := Q16.out.cell 5
                have q_6 := Q16.out.cell 6
                have q_7 := Q16.out.cell 7
                simp only [List.getElem?_toArray, List.getElem?_cons_zero, List.getElem?_cons_succ] at q_0 q_1 q_2 q_3 q_4 q_5 q_6 q_7
                have t_0 := T16.out.cell 0
                have t_1 := T16.out.cell 1
                have t_2 := T16.out.cell 2
                have t_3 := T16.out.cell 3
                have t_4 := T16.out.cell 4
                have t_5 := T16.out.cell 5
                have t_6 := T16.out.cell 6
                have t_7 := T16.out.cell 7
                simp only [List.getElem?_toArray, List.getElem?_cons_zero, List.getElem?_cons_succ] at t_0 t_1 t_2 t_3 t_4 t_5 t_6 t_7
                have u_0 := U16.out.cell 0
                have u_1 := U16.out.cell 1
                have u_2 := U16.out.cell 2
                have u_3 := U16.out.cell 3
                have u_4 := U16.out.cell 4
                have u_5 := U16.out.cell 5
                have u_6 := U16.out.cell 6
                have u_7 := U16.out.cell 7
                simp only [List.getElem?_toArray, List.getElem?_cons_zero, List.getElem?_cons_succ] at u_0 u_1 u_2 u_3 u_4 u_5 u_6 u_7
                go_wp2_with fail
                refine (csameL15 HNT.out A c A c _ OX16.out HFX.out OX16.out HFX.out).mono ?_
                rintro e w17 ⟨rfl, hb⟩
                clear x0 x1 x2 x3 x4 x5 x6 x7 r_0 r_1 r_2 r_3 r_4 r_5 r_6 r_7 b_0 b_1 b_2 b_3 b_4 b_5 b_6 b_7 q_0 q_1 q_2 q_3 q_4 q_5 q_6 q_7 t_0 t_1 t_2 t_3 t_4 t_5 t_6 t_7 u_0 u_1 u_2 u_3 u_4 u_5 u_6 u_7
                have HB17 := hid (then_w HB16.out hb)
                have X17 := hid (X16.out.later hb)
                have R17 := hid (R16.out.later hb)
                have B17 := hid (B16.out.later hb)
                have Q17 := hid (Q16.out.later hb)
                have T17 := hid (T16.out.later hb)
                have U17 := hid (U16.out.later hb)
                have OX17 := hid (OX16.out.below hb)
                have OA17 := hid (OA16.out.below hb)
                have OB17 := hid (OB16.out.below hb)
                have OQ17 := hid (OQ16.out.below hb)
                clear hb
                clear HB16 X16 R16 B16 Q16 T16 U16 OX16 OA16 OB16 OQ16
                have x0 := X17.out.cell 0
                have x1 := X17.out.cell 1
                have x2 := X17.out.cell 2
                have x3 := X17.out.cell 3
                have x4 := X17.out.cell 4
                have x5 := X17.out.cell 5
                have x6 := X17.out.cell 6
                have x7 := X17.out.cell 7
                simp only [List.getElem?_toArray, List.getElem?_cons_zero, List.getElem?_cons_succ] at x0 x1 x2 x3 x4 x5 x6 x7
                have r_0 := R17.out.cell 0
                have r_1 := R17.out.cell 1
                have r_2 := R17.out.cell 2
                have r_3 := R17.out.cell 3
                have r_4 := R17.out.cell 4
                have r_5 := R17.out.cell 5
                have r_6 := R17.out.cell 6
                have r_7 := R17.out.cell 7
                simp only [List.getElem?_toArray, List.getElem?_cons_zero, List.getElem?_cons_succ] at r_0 r_1 r_2 r_3 r_4 r_5 r_6 r_7
                have b_0 := B17.out.cell 0
                have b_1 := B17.out.cell 1
                have b_2 := B17.out.cell 2
                have b_3 := B17.out.cell 3
                have b_4 := B17.out.cell 4
                have b_5 := B17.out.cell 5
                have b_6 := B17.out.cell 6
                have b_7 := B17.out.cell 7
                simp only [List.getElem?_toArray, List.getElem?_cons_zero, List.getElem?_cons_succ] at b_0 b_1 b_2 b_3 b_4 b_5 b_6 b_7
                have q_0 := Q17.out.cell 0
                have q_1 := Q17.out.cell 1
                have q_2 := Q17.out.cell 2
                have q_3 := Q17.out.cell 3
                have q_4 := Q17.out.cell 4
                have q_5 := Q17.out.cell 5
                have q_6 := Q17.out.cell 6
                have q_7 := Q17.out.cell 7
                simp only [List.getElem?_toArray, List.getElem?_cons_zero, List.getElem?_cons_succ] at q_0 q_1 q_2 q_3 q_4 q_5 q_6 q_7
                have t_0 := T17.out.cell 0
                have t_1 := T17.out.cell 1
                have t_2 := T17.out.cell 2
                have t_3 := T17.out.cell 3
                have t_4 := T17.out.cell 4
                have t_5 := T17.out.cell 5
                have t_6 := T17.out.cell 6
                have t_7 := T17.out.cell 7
                simp only [List.getElem?_toArray, List.getElem?_cons_zero, List.getElem?_cons_succ] at t_0 t_1 t_2 t_3 t_4 t_5 t_6 t_7
                have u_0 := U17.out.cell 0
                have u_1 := U17.out.cell 1
                have u_2 := U17.out.cell 2
                have u_3 := U17.out.cell 3
                have u_4 := U17.out.cell 4
                have u_5 := U17.out.cell 5
                have u_6 := U17.out.cell 6
                have u_7 := U17.out.cell 7
                simp only [List.getElem?_toArray, List.getElem?_cons_zero, List.getElem?_cons_succ] at u_0 u_1 u_2 u_3 u_4 u_5 u_6 u_7
                go_wp2_with fail
                refine (csameL15 HNU.out A c A c _ OX17.out HFX.out OX17.out HFX.out).mono ?_
                rintro e w18 ⟨rfl, hb⟩
                clear x0 x1 x2 x3 x4 x5 x6 x7 r_0 r_1 r_2 r_3 r_4 r_5 r_6 r_7 b_0 b_1 b_2 b_3 b_4 b_5 b_6 b_7 q_0 q_1 q_2 q_3 q_4 q_5 q_6 q_7 t_0 t_1 t_2 t_3 t_4 t_5 t_6 t_7 u_0 u_1 u_2 u_3 u_4 u_5 u_6 u_7
                have HB18 := hid (then_w HB17.out hb)
                have X18 := hid (X17.out.later hb)
                have R18 := hid (R17.out.later hb)
                have B18 := hid (B17.out.later hb)
                have Q18 := hid (Q17.out.later hb)
                have T18 := hid (T17.out.later hb)
                have U18 := hid (U17.out.later hb)
                have OX18 := hid (OX17.out.below hb)
                have OA18 := hid (OA17.out.below hb)
                have OB18 := hid (OB17.out.below hb)
                have OQ18 := hid (OQ17.out.below hb)
                clear hb
                clear HB17 X17 R17 B17 Q17 T17 U17 OX17 OA17 OB17 OQ17
                go_wp2_with fail
                go_ret
                exact ⟨rfl, HB18.out⟩
end Go.Proofs.Ytnilempeldlieaa
