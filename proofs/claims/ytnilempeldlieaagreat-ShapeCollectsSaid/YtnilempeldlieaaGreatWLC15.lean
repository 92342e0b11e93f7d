/- ShapeCollects walked: whatever state, it answers true. -/
import Derived.Test.YtnilempeldlieaaGreatWSX15
import Derived.Test.YtnilempeldlieaaGreatWSG15
import Derived.Test.YtnilempeldlieaaGreatWNL
import Derived.Test.YtnilempeldlieaaGreatM04
namespace Go.Proofs.YtnilempeldlieaaGreat
open Go.RowKit
set_option maxRecDepth 100000
theorem rckL15 {s : St} {en : Int} (he : ckI s = en) (A : Option Addr) (c : Nat) (w : World) (hs : ObsR w A s.hp.objs) (fit : s.hp.Fit) : Calls Tryz.prog 11 #[.agg #[.slice A s.hp.objs.length c, .int .i64 s.hp.cap, .int .i64 s.hp.last, .int .i64 s.proc, .int .i64 s.ready, .int .i64 s.halt, .int .i64 s.steps, .int .i64 s.used]] w fun e w' => e = .returned (.int .i64 en) ∧ Below w.heap.size w w' := by subst he; exact rck_any15 s A c w hs fit
theorem rrootsL15 {s : St} {L : List Int} (hL : rtL s = L) (A : Option Addr) (c : Nat) (w : World) (hs : ObsR w A s.hp.objs) (fit : s.hp.Fit) : Calls Tryz.prog 14 #[.agg #[.slice A s.hp.objs.length c, .int .i64 s.hp.cap, .int .i64 s.hp.last, .int .i64 s.proc, .int .i64 s.ready, .int .i64 s.halt, .int .i64 s.steps, .int .i64 s.used]] w (IntsOf15 w L) := by subst hL; exact rroots_any15 s A c w hs fit
theorem liveL15 {h : Hp} {rs L : List Int} {en : Int} (hL : liL h rs = L) (he : liE h rs = en) (A R : Option Addr) (c d : Nat) (w : World) (hs : ObsR w A h.objs) (fit : h.Fit) (hr : IntsR w R rs) (hl : rs.length ≤ 9223372036854775807) :
    Calls Tryz.prog 18 #[.agg #[.slice A h.objs.length c, .int .i64 h.cap, .int .i64 h.last], .slice R rs.length d] w (IntsTwo w L en) := by subst hL he; exact rlive_any h rs A R c d w hs fit hr hl
set_option maxHeartbeats 4000000 in
theorem lcollects_any15 (s : St) (A : Option Addr) (c : Nat) (w : World) (hsX : ObsR w A s.hp.objs) (fitX : s.hp.Fit) :
    Calls Tryz.prog 4 #[.agg #[.slice A s.hp.objs.length c, .int .i64 s.hp.cap, .int .i64 s.hp.last, .int .i64 s.proc, .int .i64 s.ready, .int .i64 s.halt, .int .i64 s.steps, .int .i64 s.used]] w fun e w' => e = .returned (.bool (true)) ∧ Below w.heap.size w w' := by
  obtain ⟨w0, hw0⟩ : ∃ w0, w0 = (w.alloc (.cells #[.slice A s.hp.objs.length c, .int .i64 s.hp.cap, .int .i64 s.hp.last, .int .i64 s.proc, .int .i64 s.ready, .int .i64 s.halt, .int .i64 s.steps, .int .i64 s.used] 27)) := ⟨_, rfl⟩
  have HB0 : Hid (Below w.heap.size w w0) := by show Below _ _ _; rw [hw0]; exact below_alloc w _
  have X0 : Hid (Lies w0 (w.heap.size) 27 #[.slice A s.hp.objs.length c, .int .i64 s.hp.cap, .int .i64 s.hp.last, .int .i64 s.proc, .int .i64 s.ready, .int .i64 s.halt, .int .i64 s.steps, .int .i64 s.used]) := by
    show Lies _ _ _ _
    rw [hw0]
    have := Lies.new w 27 #[.slice A s.hp.objs.length c, .int .i64 s.hp.cap, .int .i64 s.hp.last, .int .i64 s.proc, .int .i64 s.ready, .int .i64 s.halt, .int .i64 s.steps, .int .i64 s.used]
    simpa [Hid] using this
  have OX0 := hid (hsX.below HB0.out)
  have HFX := hid fitX
  have hflX := fitX.1
  clear hsX fitX
  go_enter Tryz.func4, Tryz.ntmps4
  go_upto_region 1 with fail
  rw [← hw0]
  clear hw0
  have x0 := X0.out.cell 0
  have x1 := X0.out.cell 1
  have x2 := X0.out.cell 2
  have x3 := X0.out.cell 3
  have x4 := X0.out.cell 4
  have x5 := X0.out.cell 5
  have x6 := X0.out.cell 6
  have x7 := X0.out.cell 7
  simp only [List.getElem?_toArray, List.getElem?_cons_zero, List.getElem?_cons_succ] at x0 x1 x2 x3 x4 x5 x6 x7
  go_wp2_with fail
  refine (fixed15_any _).mono ?_
  rintro e w1 ⟨rfl, hb⟩
  clear x0 x1 x2 x3 x4 x5 x6 x7
  have HB1 := hid (then_w HB0.out hb)
  have X1 := hid (X0.out.later hb)
  have OX1 := hid (OX0.out.below hb)
  clear hb
  clear HB0 X0 OX0
  have x0 := X1.out.cell 0
  have x1 := X1.out.cell 1
  have x2 := X1.out.cell 2
  have x3 := X1.out.cell 3
  have x4 := X1.out.cell 4
  have x5 := X1.out.cell 5
  have x6 := X1.out.cell 6
  have x7 := X1.out.cell 7
  simp only [List.getElem?_toArray, List.getElem?_cons_zero, List.getElem?_cons_succ] at x0 x1 x2 x3 x4 x5 x6 x7
  go_wp2_with fail
  refine (small_ok s.hp A c _ OX1.out HFX.out).mono ?_
  rintro e w2 ⟨sm, rfl, hb⟩
  clear x0 x1 x2 x3 x4 x5 x6 x7
  have HB2 := hid (then_w HB1.out hb)
  have X2 := hid (X1.out.later hb)
  have OX2 := hid (OX1.out.below hb)
  clear hb
  clear HB1 X1 OX1
  cases sm
  · have x0 := X2.out.cell 0
    have x1 := X2.out.cell 1
    have x2 := X2.out.cell 2
    have x3 := X2.out.cell 3
    have x4 := X2.out.cell 4
    have x5 := X2.out.cell 5
    have x6 := X2.out.cell 6
    have x7 := X2.out.cell 7
    simp only [List.getElem?_toArray, List.getElem?_cons_zero, List.getElem?_cons_succ] at x0 x1 x2 x3 x4 x5 x6 x7
    go_wp2_with fail
    refine (fixed15_any _).mono ?_
    rintro e w3 ⟨rfl, hb⟩
    clear x0 x1 x2 x3 x4 x5 x6 x7
    have HB3 := hid (then_w HB2.out hb)
    have X3 := hid (X2.out.later hb)
    have OX3 := hid (OX2.out.below hb)
    clear hb
    clear HB2 X2 OX2
    go_wp2_with fail
    go_ret
    exact ⟨rfl, HB3.out⟩
  · by_cases q1 : 60 < s.hp.objs.length
    · have q' : (60 : Int) < (s.hp.objs.length : Int) := by omega
      have x0 := X2.out.cell 0
      have x1 := X2.out.cell 1
      have x2 := X2.out.cell 2
      have x3 := X2.out.cell 3
      have x4 := X2.out.cell 4
      have x5 := X2.out.cell 5
      have x6 := X2.out.cell 6
      have x7 := X2.out.cell 7
      simp only [List.getElem?_toArray, List.getElem?_cons_zero, List.getElem?_cons_succ] at x0 x1 x2 x3 x4 x5 x6 x7
      go_wp2_with fail
      refine (fixed15_any _).mono ?_
      rintro e w3 ⟨rfl, hb⟩
      clear x0 x1 x2 x3 x4 x5 x6 x7
      have HB3 := hid (then_w HB2.out hb)
      have X3 := hid (X2.out.later hb)
      have OX3 := hid (OX2.out.below hb)
      clear hb
      clear HB2 X2 OX2
      go_wp2_with fail
      go_ret
      exact ⟨rfl, HB3.out⟩
    · have q' : ¬ (60 : Int) < (s.hp.objs.length : Int) := by omega
      obtain ⟨ckX, hckX⟩ : ∃ x, x = ckI s := ⟨_, rfl⟩
      have HCKX := hid hckX
      clear hckX
      have x0 := X2.out.cell 0
      have x1 := X2.out.cell 1
      have x2 := X2.out.cell 2
      have x3 := X2.out.cell 3
      have x4 := X2.out.cell 4
      have x5 := X2.out.cell 5
      have x6 := X2.out.cell 6
      have x7 := X2.out.cell 7
      simp only [List.getElem?_toArray, List.getElem?_cons_zero, List.getElem?_cons_succ] at x0 x1 x2 x3 x4 x5 x6 x7
      go_wp2_with fail
      refine (rck_any15 s A c _ OX2.out HFX.out).mono ?_
      rintro e w3 ⟨rfl, hb⟩
      clear x0 x1 x2 x3 x4 x5 x6 x7
      rw [← HCKX.out]
      have HB3 := hid (then_w HB2.out hb)
      have X3 := hid (X2.out.later hb)
      have OX3 := hid (OX2.out.below hb)
      clear hb
      clear HB2 X2 OX2
      cases hx : ckB s
      · obtain rfl : ckX = 150 := HCKX.out.trans (ckI_no hx)
        clear hx
        have x0 := X3.out.cell 0
        have x1 := X3.out.cell 1
        have x2 := X3.out.cell 2
        have x3 := X3.out.cell 3
        have x4 := X3.out.cell 4
        have x5 := X3.out.cell 5
        have x6 := X3.out.cell 6
        have x7 := X3.out.cell 7
        simp only [List.getElem?_toArray, List.getElem?_cons_zero, List.getElem?_cons_succ] at x0 x1 x2 x3 x4 x5 x6 x7
        go_wp2_with fail
        refine (fixed15_any _).mono ?_
        rintro e w4 ⟨rfl, hb⟩
        clear x0 x1 x2 x3 x4 x5 x6 x7
        have HB4 := hid (then_w HB3.out hb)
        have X4 := hid (X3.out.later hb)
        have OX4 := hid (OX3.out.below hb)
        clear hb
        clear HB3 X3 OX3
        go_wp2_with fail
        go_ret
        exact ⟨rfl, HB4.out⟩
      · have HCX := hid (ck_iff.1 hx)
        obtain rfl : ckX = 0 := HCKX.out.trans (ckI_yes hx)
        have HIX := hid (ckI_yes hx)
        have HSX := hid (coS_yes hx)
        clear hx
        obtain ⟨q, hq⟩ : ∃ q, q = cl15 s := ⟨_, rfl⟩
        have HCQ : Hid (Ck15 q) := by show Ck15 _; rw [hq]; exact co_ck HCX.out
        have HFQ : Hid q.hp.Fit := by show q.hp.Fit; rw [hq]; exact co_fit15 HCX.out
        have HQ : Hid (coS s = q) := HSX.out.trans hq.symm
        have HIQ : Hid (ckI q = 0) := ckI_yes (ck_iff.2 HCQ.out)
        have HQQ : Hid (coS q = q) := (coS_yes (ck_iff.2 HCQ.out)).trans (by rw [hq]; exact co_twice HCX.out)
        have HSA : Hid (ssB q s = true) := by show _ = _; rw [hq]; exact ss_turn (ss_cl HCX.out)
        have HRQ : Hid (rtL q = rt15 q) := rtL_yes (ck_iff.2 HCQ.out)
        obtain ⟨Lv, hLv⟩ : ∃ x, x = liL q.hp (rt15 q) := ⟨_, rfl⟩
        have HLV := hid hLv.symm
        have HLN : Hid (Lv.length = q.hp.objs.length) := by show _ = _; rw [hLv, hq]; exact co_all HCX.out
        have HLI : Hid (liE q.hp (rt15 q) = 0) := rt_li HCQ.out
        have HFI : Hid (∀ i, i < 12 → ∃ o p, s.hp.objs[i]? = some o ∧ q.hp.objs[i]? = some p ∧ p.hash = o.hash ∧ p.kind = o.kind) := fun i hi => by rw [hq]; exact co_first HCX.out hi
        clear hq hLv
        have x0 := X3.out.cell 0
        have x1 := X3.out.cell 1
        have x2 := X3.out.cell 2
        have x3 := X3.out.cell 3
        have x4 := X3.out.cell 4
        have x5 := X3.out.cell 5
        have x6 := X3.out.cell 6
        have x7 := X3.out.cell 7
        simp only [List.getElem?_toArray, List.getElem?_cons_zero, List.getElem?_cons_succ] at x0 x1 x2 x3 x4 x5 x6 x7
        go_wp2_with fail
        refine (ccolL15 HQ.out HIX.out A c _ OX3.out HFX.out).mono ?_
        rintro e w4 ⟨A2, c2, rfl, ob2, hb⟩
        clear x0 x1 x2 x3 x4 x5 x6 x7
        have HB4 := hid (then_w HB3.out hb)
        have X4 := hid (X3.out.later hb)
        have OX4 := hid (OX3.out.below hb)
        clear hb
        clear HB3 X3 OX3
        have OA4 := hid ob2
        clear ob2
        go_upto_region 4 with fail
        obtain ⟨w5, hw⟩ : ∃ x, x = w4.alloc (.cells #[.slice A2 q.hp.objs.length c2, .int .i64 q.hp.cap, .int .i64 q.hp.last, .int .i64 q.proc, .int .i64 q.ready, .int .i64 q.halt, .int .i64 q.steps, .int .i64 q.used] 27) := ⟨_, rfl⟩
        obtain ⟨bp, hbx⟩ : ∃ x, x = w4.heap.size := ⟨_, rfl⟩
        have P5 : Hid (Lies w5 bp 27 #[.slice A2 q.hp.objs.length c2, .int .i64 q.hp.cap, .int .i64 q.hp.last, .int .i64 q.proc, .int .i64 q.ready, .int .i64 q.halt, .int .i64 q.steps, .int .i64 q.used]) := by show Lies _ _ _ _; rw [hw, hbx]; exact Lies.new _ _ _
        have hb : Below w4.heap.size w4 w5 := by rw [hw]; exact below_alloc _ _
        rw [← hw, ← hbx]
        have ne_X_P : Hid ((w.heap.size) ≠ bp) := by show _ ≠ _; rw [hbx]; exact Nat.ne_of_lt X4.out.lt
        have at_P : Hid (bp = w4.heap.size) := hbx
        have le_HB_P : Hid (w.heap.size ≤ bp) := by show _ ≤ _; rw [hbx]; exact HB4.out.size
        clear hbx hw
        have HALP := hid hb
        have HB5 := hid (then_w HB4.out hb)
        have X5 := hid (X4.out.later hb)
        have OX5 := hid (OX4.out.below hb)
        have OA5 := hid (OA4.out.below hb)
        clear hb
        clear HB4 X4 OX4 OA4
        have x0 := X5.out.cell 0
        have x1 := X5.out.cell 1
        have x2 := X5.out.cell 2
        have x3 := X5.out.cell 3
        have x4 := X5.out.cell 4
        have x5 := X5.out.cell 5
        have x6 := X5.out.cell 6
        have x7 := X5.out.cell 7
        simp only [List.getElem?_toArray, List.getElem?_cons_zero, List.getElem?_cons_succ] at x0 x1 x2 x3 x4 x5 x6 x7
        have p_0 := P5.out.cell 0
        have p_1 := P5.out.cell 1
        have p_2 := P5.out.cell 2
        have p_3 := P5.out.cell 3
        have p_4 := P5.out.cell 4
        have p_5 := P5.out.cell 5
        have p_6 := P5.out.cell 6
        have p_7 := P5.out.cell 7
        simp only [List.getElem?_toArray, List.getElem?_cons_zero, List.getElem?_cons_succ] at p_0 p_1 p_2 p_3 p_4 p_5 p_6 p_7
        go_wp2_with fail
        refine (rckL15 HIQ.out A2 c2 _ OA5.out HFQ.out).mono ?_
        rintro e w6 ⟨rfl, hb⟩
        clear x0 x1 x2 x3 x4 x5 x6 x7 p_0 p_1 p_2 p_3 p_4 p_5 p_6 p_7
        have HB6 := hid (then_w HB5.out hb)
        have X6 := hid (X5.out.later hb)
        have P6 := hid (P5.out.later hb)
        have OX6 := hid (OX5.out.below hb)
        have OA6 := hid (OA5.out.below hb)
        clear hb
        clear HB5 X5 P5 OX5 OA5
        have x0 := X6.out.cell 0
        have x1 := X6.out.cell 1
        have x2 := X6.out.cell 2
        have x3 := X6.out.cell 3
        have x4 := X6.out.cell 4
        have x5 := X6.out.cell 5
        have x6 := X6.out.cell 6
        have x7 := X6.out.cell 7
        simp only [List.getElem?_toArray, List.getElem?_cons_zero, List.getElem?_cons_succ] at x0 x1 x2 x3 x4 x5 x6 x7
        have p_0 := P6.out.cell 0
        have p_1 := P6.out.cell 1
        have p_2 := P6.out.cell 2
        have p_3 := P6.out.cell 3
        have p_4 := P6.out.cell 4
        have p_5 := P6.out.cell 5
        have p_6 := P6.out.cell 6
        have p_7 := P6.out.cell 7
        simp only [List.getElem?_toArray, List.getElem?_cons_zero, List.getElem?_cons_succ] at p_0 p_1 p_2 p_3 p_4 p_5 p_6 p_7
        go_wp2_with fail
        refine (rsameL15 HSA.out A2 c2 A c _ OA6.out HFQ.out OX6.out HFX.out).mono ?_
        rintro e w7 ⟨rfl, hb⟩
        clear x0 x1 x2 x3 x4 x5 x6 x7 p_0 p_1 p_2 p_3 p_4 p_5 p_6 p_7
        have HB7 := hid (then_w HB6.out hb)
        have X7 := hid (X6.out.later hb)
        have P7 := hid (P6.out.later hb)
        have OX7 := hid (OX6.out.below hb)
        have OA7 := hid (OA6.out.below hb)
        clear hb
        clear HB6 X6 P6 OX6 OA6
        have x0 := X7.out.cell 0
        have x1 := X7.out.cell 1
        have x2 := X7.out.cell 2
        have x3 := X7.out.cell 3
        have x4 := X7.out.cell 4
        have x5 := X7.out.cell 5
        have x6 := X7.out.cell 6
        have x7 := X7.out.cell 7
        simp only [List.getElem?_toArray, List.getElem?_cons_zero, List.getElem?_cons_succ] at x0 x1 x2 x3 x4 x5 x6 x7
        have p_0 := P7.out.cell 0
        have p_1 := P7.out.cell 1
        have p_2 := P7.out.cell 2
        have p_3 := P7.out.cell 3
        have p_4 := P7.out.cell 4
        have p_5 := P7.out.cell 5
        have p_6 := P7.out.cell 6
        have p_7 := P7.out.cell 7
        simp only [List.getElem?_toArray, List.getElem?_cons_zero, List.getElem?_cons_succ] at p_0 p_1 p_2 p_3 p_4 p_5 p_6 p_7
        go_wp2_with fail
        refine (csameL15 HSA.out A2 c2 A c _ OA7.out HFQ.out OX7.out HFX.out).mono ?_
        rintro e w8 ⟨rfl, hb⟩
        clear x0 x1 x2 x3 x4 x5 x6 x7 p_0 p_1 p_2 p_3 p_4 p_5 p_6 p_7
        have HB8 := hid (then_w HB7.out hb)
        have X8 := hid (X7.out.later hb)
        have P8 := hid (P7.out.later hb)
        have OX8 := hid (OX7.out.below hb)
        have OA8 := hid (OA7.out.below hb)
        clear hb
        clear HB7 X7 P7 OX7 OA7
        go_upto_region 6 with fail
        have x0 := X8.out.cell 0
        have x1 := X8.out.cell 1
        have x2 := X8.out.cell 2
        have x3 := X8.out.cell 3
        have x4 := X8.out.cell 4
        have x5 := X8.out.cell 5
        have x6 := X8.out.cell 6
        have x7 := X8.out.cell 7
        simp only [List.getElem?_toArray, List.getElem?_cons_zero, List.getElem?_cons_succ] at x0 x1 x2 x3 x4 x5 x6 x7
        have p_0 := P8.out.cell 0
        have p_1 := P8.out.cell 1
        have p_2 := P8.out.cell 2
        have p_3 := P8.out.cell 3
        have p_4 := P8.out.cell 4
        have p_5 := P8.out.cell 5
        have p_6 := P8.out.cell 6
        have p_7 := P8.out.cell 7
        simp only [List.getElem?_toArray, List.getElem?_cons_zero, List.getElem?_cons_succ] at p_0 p_1 p_2 p_3 p_4 p_5 p_6 p_7
        refine wp_region_held_drew (S := (fun w' => w'.cell? ⟨(w.heap.size), 0, none⟩ = some (.slice A s.hp.objs.length c) ∧ w'.cell? ⟨(w.heap.size), 1, none⟩ = some (.int .i64 s.hp.cap) ∧ w'.cell? ⟨(w.heap.size), 2, none⟩ = some (.int .i64 s.hp.last) ∧ w'.cell? ⟨(w.heap.size), 3, none⟩ = some (.int .i64 s.proc) ∧ w'.cell? ⟨(w.heap.size), 4, none⟩ = some (.int .i64 s.ready) ∧ w'.cell? ⟨(w.heap.size), 5, none⟩ = some (.int .i64 s.halt) ∧ w'.cell? ⟨(w.heap.size), 6, none⟩ = some (.int .i64 s.steps) ∧ w'.cell? ⟨(w.heap.size), 7, none⟩ = some (.int .i64 s.used) ∧ w'.cell? ⟨bp, 0, none⟩ = some (.slice A2 q.hp.objs.length c2) ∧ w'.cell? ⟨bp, 1, none⟩ = some (.int .i64 q.hp.cap) ∧ w'.cell? ⟨bp, 2, none⟩ = some (.int .i64 q.hp.last) ∧ w'.cell? ⟨bp, 3, none⟩ = some (.int .i64 q.proc) ∧ w'.cell? ⟨bp, 4, none⟩ = some (.int .i64 q.ready) ∧ w'.cell? ⟨bp, 5, none⟩ = some (.int .i64 q.halt) ∧ w'.cell? ⟨bp, 6, none⟩ = some (.int .i64 q.steps) ∧ w'.cell? ⟨bp, 7, none⟩ = some (.int .i64 q.used))) (by kernel_rfl) ?_ (fun hH0 => ?_)
        · exact ⟨x0, x1, x2, x3, x4, x5, x6, x7, p_0, p_1, p_2, p_3, p_4, p_5, p_6, p_7⟩
        refine wpAnyH_take (i := 0) (oi := { dst := some 56, op := Go.Op.fieldAddr 27 (Go.Operand.tmp 3) 0, type := 0, pos := "law.go:59", after := #[], guard := none }) (v := ?vv1) rfl (by kernel_rfl) (by kernel_rfl) (by kernel_rfl) (fun _ _ _ h => h) (Or.inl ⟨by rfl, ?hy1⟩) (by assumption) ?rr1
        case hy1 => intro w hSw; (try dsimp only at hSw); go_simp; all_goals with_reducible rfl
        try simp only [Act.put, List.setIfInBounds_toArray, List.set_cons_zero, List.set_cons_succ]
        refine wpAnyH_take (i := 1) (oi := { dst := some 57, op := Go.Op.load 24 (Go.Operand.tmp 56), type := 24, pos := "law.go:59", after := #[{ on := 0, ground := Go.Ground.data }], guard := none }) (v := ?vv2) rfl (by kernel_rfl) (by kernel_rfl) (by kernel_rfl) (fun _ _ _ h => h) (Or.inl ⟨by rfl, ?hy2⟩) (by assumption) ?rr2
        case hy2 => intro w hSw; (try dsimp only at hSw); go_simp; all_goals with_reducible rfl
        try simp only [Act.put, List.setIfInBounds_toArray, List.set_cons_zero, List.set_cons_succ]
        refine wpAnyH_take (i := 2) (oi := { dst := some 58, op := Go.Op.load 27 (Go.Operand.tmp 3), type := 27, pos := "law.go:59", after := #[], guard := none }) (v := ?vv3) rfl (by kernel_rfl) (by kernel_rfl) (by kernel_rfl) (fun _ _ _ h => h) (Or.inl ⟨by rfl, ?hy3⟩) (by assumption) ?rr3
        case hy3 => intro w hSw; (try dsimp only at hSw); go_simp; all_goals with_reducible rfl
        try simp only [Act.put, List.setIfInBounds_toArray, List.set_cons_zero, List.set_cons_succ]
        refine wpAnyH_ready (rs := [3]) (by kernel_rfl) (by simp) ?_
        refine AllReadyH.cons (i := 3) (o := { dst := some 59, op := Go.Op.call { callee := Go.Callee.value (Go.Operand.func 14), args := #[Go.Operand.tmp 58], argTypes := #[27] }, type := 34, pos := "law.go:59", after := #[{ on := 2, ground := Go.Ground.data }], guard := none }) rfl (fun K hK => ?_) AllReadyH.nil
        go_simp
        go_at_call 14
        refine (rrootsL15 HRQ.out A2 c2 _ (OA8.out.below (Below.refl _ w8).drew) HFQ.out).mono ?_
        rintro e v1 ⟨B1, e1, rfl, hi, hb⟩
        have HV1 := hid (then_b (Below.refl _ w8).drew hb)
        have HI1 := hid hi
        clear hi
        refine hK.out _ _ ?_ (fun hH1 => ?_)
        · exact ⟨cell_later hb hH0.1, cell_later hb hH0.2.1, cell_later hb hH0.2.2.1, cell_later hb hH0.2.2.2.1, cell_later hb hH0.2.2.2.2.1, cell_later hb hH0.2.2.2.2.2.1, cell_later hb hH0.2.2.2.2.2.2.1, cell_later hb hH0.2.2.2.2.2.2.2.1, cell_later hb hH0.2.2.2.2.2.2.2.2.1, cell_later hb hH0.2.2.2.2.2.2.2.2.2.1, cell_later hb hH0.2.2.2.2.2.2.2.2.2.2.1, cell_later hb hH0.2.2.2.2.2.2.2.2.2.2.2.1, cell_later hb hH0.2.2.2.2.2.2.2.2.2.2.2.2.1, cell_later hb hH0.2.2.2.2.2.2.2.2.2.2.2.2.2.1, cell_later hb hH0.2.2.2.2.2.2.2.2.2.2.2.2.2.2.1, cell_later hb hH0.2.2.2.2.2.2.2.2.2.2.2.2.2.2.2⟩
        clear hK K
        try simp only [Act.put, List.setIfInBounds_toArray, List.set_cons_zero, List.set_cons_succ]
        clear hb
        refine wpAnyH_ready (rs := [4]) (by kernel_rfl) (by simp) ?_
        refine AllReadyH.cons (i := 4) (o := { dst := some 60, op := Go.Op.call { callee := Go.Callee.value (Go.Operand.func 18), args := #[Go.Operand.tmp 57, Go.Operand.tmp 59], argTypes := #[24, 34] }, type := 38, pos := "law.go:59", after := #[{ on := 1, ground := Go.Ground.data }, { on := 3, ground := Go.Ground.data }, { on := 3, ground := Go.Ground.chain }], guard := none }) rfl (fun K hK => ?_) AllReadyH.nil
        go_simp
        go_at_call 18
        refine (liveL15 HLV.out HLI.out A2 B1 c2 e1 _ (OA8.out.below HV1.out) HFQ.out HI1.out (by rw [rt15_len]; decide)).mono ?_
        rintro e v2 ⟨B2, e2, rfl, -, -, -, hb⟩
        have HV2 := hid (then_b HV1.out hb)
        refine hK.out _ _ ?_ (fun hH2 => ?_)
        · exact ⟨cell_later hb hH1.1, cell_later hb hH1.2.1, cell_later hb hH1.2.2.1, cell_later hb hH1.2.2.2.1, cell_later hb hH1.2.2.2.2.1, cell_later hb hH1.2.2.2.2.2.1, cell_later hb hH1.2.2.2.2.2.2.1, cell_later hb hH1.2.2.2.2.2.2.2.1, cell_later hb hH1.2.2.2.2.2.2.2.2.1, cell_later hb hH1.2.2.2.2.2.2.2.2.2.1, cell_later hb hH1.2.2.2.2.2.2.2.2.2.2.1, cell_later hb hH1.2.2.2.2.2.2.2.2.2.2.2.1, cell_later hb hH1.2.2.2.2.2.2.2.2.2.2.2.2.1, cell_later hb hH1.2.2.2.2.2.2.2.2.2.2.2.2.2.1, cell_later hb hH1.2.2.2.2.2.2.2.2.2.2.2.2.2.2.1, cell_later hb hH1.2.2.2.2.2.2.2.2.2.2.2.2.2.2.2⟩
        clear hK K
        try simp only [Act.put, List.setIfInBounds_toArray, List.set_cons_zero, List.set_cons_succ]
        clear hb
        refine wpAnyH_take (i := 5) (oi := { dst := some 55, op := Go.Op.move (Go.Operand.tmp 60), type := 38, pos := "law.go:59", after := #[{ on := 4, ground := Go.Ground.data }], guard := none }) (v := ?vv4) rfl (by kernel_rfl) (by kernel_rfl) (by kernel_rfl) (fun _ _ _ h => h) (Or.inl ⟨by rfl, ?hy4⟩) (by assumption) ?rr4
        case hy4 => intro w hSw; (try dsimp only at hSw); go_simp; all_goals with_reducible rfl
        try simp only [Act.put, List.setIfInBounds_toArray, List.set_cons_zero, List.set_cons_succ]
        refine wpAnyH_take (i := 6) (oi := { dst := some 61, op := Go.Op.extract (Go.Operand.tmp 55) 0, type := 34, pos := "law.go:59", after := #[{ on := 5, ground := Go.Ground.data }], guard := none }) (v := ?vv5) rfl (by kernel_rfl) (by kernel_rfl) (by kernel_rfl) (fun _ _ _ h => h) (Or.inl ⟨by rfl, ?hy5⟩) (by assumption) ?rr5
        case hy5 => intro w hSw; (try dsimp only at hSw); go_simp; all_goals with_reducible rfl
        try simp only [Act.put, List.setIfInBounds_toArray, List.set_cons_zero, List.set_cons_succ]
        refine wpAnyH_take (i := 7) (oi := { dst := some 62, op := Go.Op.extract (Go.Operand.tmp 55) 1, type := 25, pos := "law.go:59", after := #[{ on := 5, ground := Go.Ground.data }, { on := 8, ground := Go.Ground.gcOnly Go.Departure.lateStores }], guard := none }) (v := ?vv6) rfl (by kernel_rfl) (by kernel_rfl) (by kernel_rfl) (fun _ _ _ h => h) (Or.inl ⟨by rfl, ?hy6⟩) (by assumption) ?rr6
        case hy6 => intro w hSw; (try dsimp only at hSw); go_simp; all_goals with_reducible rfl
        try simp only [Act.put, List.setIfInBounds_toArray, List.set_cons_zero, List.set_cons_succ]
        refine wpAnyH_take (i := 8) (oi := { dst := some 5, op := Go.Op.assign (Go.Operand.tmp 61), type := 34, pos := "law.go:59", after := #[{ on := 6, ground := Go.Ground.data }, { on := 4, ground := Go.Ground.chain }, { on := 0, ground := Go.Ground.phase }, { on := 1, ground := Go.Ground.phase }, { on := 2, ground := Go.Ground.phase }, { on := 3, ground := Go.Ground.phase }, { on := 4, ground := Go.Ground.phase }, { on := 5, ground := Go.Ground.phase }, { on := 6, ground := Go.Ground.phase }, { on := 7, ground := Go.Ground.textOnly Go.Departure.lateStores }], guard := none }) (v := ?vv7) rfl (by kernel_rfl) (by kernel_rfl) (by kernel_rfl) (fun _ _ _ h => h) (Or.inl ⟨by rfl, ?hy7⟩) (by assumption) ?rr7
        case hy7 => intro w hSw; (try dsimp only at hSw); go_simp; all_goals with_reducible rfl
        try simp only [Act.put, List.setIfInBounds_toArray, List.set_cons_zero, List.set_cons_succ]
        refine wpAnyH_take (i := 9) (oi := { dst := some 6, op := Go.Op.assign (Go.Operand.tmp 62), type := 25, pos := "law.go:59", after := #[{ on := 7, ground := Go.Ground.data }, { on := 8, ground := Go.Ground.chain }, { on := 0, ground := Go.Ground.phase }, { on := 1, ground := Go.Ground.phase }, { on := 2, ground := Go.Ground.phase }, { on := 3, ground := Go.Ground.phase }, { on := 4, ground := Go.Ground.phase }, { on := 5, ground := Go.Ground.phase }, { on := 6, ground := Go.Ground.phase }, { on := 7, ground := Go.Ground.phase }, { on := 8, ground := Go.Ground.phase }], guard := none }) (v := ?vv8) rfl (by kernel_rfl) (by kernel_rfl) (by kernel_rfl) (fun _ _ _ h => h) (Or.inl ⟨by rfl, ?hy8⟩) (by assumption) ?rr8
        case hy8 => intro w hSw; (try dsimp only at hSw); go_simp; all_goals with_reducible rfl
        try simp only [Act.put, List.setIfInBounds_toArray, List.set_cons_zero, List.set_cons_succ]
        refine wpAnyH_done (by kernel_rfl) ?_ _
        clear x0 x1 x2 x3 x4 x5 x6 x7 p_0 p_1 p_2 p_3 p_4 p_5 p_6 p_7
        have hb := HV2.out
        have HB9 := hid (then_w HB8.out hb)
        have X9 := hid (X8.out.later hb)
        have P9 := hid (P8.out.later hb)
        have OX9 := hid (OX8.out.below hb)
        have OA9 := hid (OA8.out.below hb)
        clear hb HV1 HV2 HI1
        go_wp2_with fail
        go_loopw [7] (fun i wr => ∃ k : Nat, k ≤ 12 ∧ i = .int .i64 k ∧ Below v2.heap.size v2 wr) (fun i _ => 12 - (intOf i).toNat)
        case atStart => exact ⟨0, Nat.zero_le _, rfl, Below.refl _ _⟩
        case round =>
          rename World => w10
          obtain ⟨k, hk, rfl, hb⟩ := hrel
          have HBK := hid hb
          have HB10 := hid (then_w HB9.out hb)
          have X10 := hid (X9.out.later hb)
          have P10 := hid (P9.out.later hb)
          have OX10 := hid (OX9.out.below hb)
          have OA10 := hid (OA9.out.below hb)
          clear hb
          clear HB9 X9 P9 OX9 OA9
          by_cases hlt : k < 12
          · obtain ⟨o, p, ho, hp, h1, h2⟩ := HFI.out k hlt
            have hk7 : (k : Int) < 12 := by omega
            have hn1 : k < s.hp.objs.length := (List.getElem?_eq_some_iff.1 ho).1
            have hn2 : k < q.hp.objs.length := (List.getElem?_eq_some_iff.1 hp).1
            have hm1 : (k : Int) < (s.hp.objs.length : Int) := by omega
            have hm2 : (k : Int) < (q.hp.objs.length : Int) := by omega
            obtain ⟨bO, oO, rfl, hltO, hcO⟩ := OX10.out (by omega)
            obtain ⟨bQ, oQ, rfl, hltQ, hcQ⟩ := OA10.out (by omega)
            obtain ⟨S1_, d1_, g1, -, -, -⟩ := hcO k o ho
            obtain ⟨S2_, d2_, g2, -, -, -⟩ := hcQ k p hp
            obtain ⟨-, u1, -, -, -, u5⟩ := g1
            obtain ⟨-, z1, -, -, -, z5⟩ := g2
            rw [h2] at z1
            rw [h1] at z5
            clear hltO hcO hltQ hcQ h1 h2 ho hp
            have x0 := X10.out.cell 0
            have x1 := X10.out.cell 1
            have x2 := X10.out.cell 2
            have x3 := X10.out.cell 3
            have x4 := X10.out.cell 4
            have x5 := X10.out.cell 5
            have x6 := X10.out.cell 6
            have x7 := X10.out.cell 7
            simp only [List.getElem?_toArray, List.getElem?_cons_zero, List.getElem?_cons_succ] at x0 x1 x2 x3 x4 x5 x6 x7
            have p_0 := P10.out.cell 0
            have p_1 := P10.out.cell 1
            have p_2 := P10.out.cell 2
            have p_3 := P10.out.cell 3
            have p_4 := P10.out.cell 4
            have p_5 := P10.out.cell 5
            have p_6 := P10.out.cell 6
            have p_7 := P10.out.cell 7
            simp only [List.getElem?_toArray, List.getElem?_cons_zero, List.getElem?_cons_succ] at p_0 p_1 p_2 p_3 p_4 p_5 p_6 p_7
            go_upto_region 10 with fail
            go_quiet (fail)
            go_wp2_with fail
            go_roundw
            case rel => exact ⟨k + 1, by omega, by go_num, _root_.Go.below_drewN HBK.out _⟩
            case measure => simp [intOf]; omega
          · obtain rfl : k = 12 := by omega
            clear hk hlt HBK
            have p_0 := P10.out.cell 0
            have p_1 := P10.out.cell 1
            have p_2 := P10.out.cell 2
            have p_3 := P10.out.cell 3
            have p_4 := P10.out.cell 4
            have p_5 := P10.out.cell 5
            have p_6 := P10.out.cell 6
            have p_7 := P10.out.cell 7
            simp only [List.getElem?_toArray, List.getElem?_cons_zero, List.getElem?_cons_succ] at p_0 p_1 p_2 p_3 p_4 p_5 p_6 p_7
            go_wp2_with fail
            refine (ccolL15 HQQ.out HIQ.out A2 c2 _ OA10.out HFQ.out).mono ?_
            rintro e w11 ⟨A3, c3, rfl, ob3, hb⟩
            clear p_0 p_1 p_2 p_3 p_4 p_5 p_6 p_7
            have HB11 := hid (then_w HB10.out hb)
            have X11 := hid (X10.out.later hb)
            have P11 := hid (P10.out.later hb)
            have OX11 := hid (OX10.out.below hb)
            have OA11 := hid (OA10.out.below hb)
            clear hb
            clear HB10 X10 P10 OX10 OA10
            have OB11 := hid ob3
            clear ob3
            go_upto_region 13 with fail
            obtain ⟨w12, hw⟩ : ∃ x, x = w11.alloc (.cells #[.slice A3 q.hp.objs.length c3, .int .i64 q.hp.cap, .int .i64 q.hp.last, .int .i64 q.proc, .int .i64 q.ready, .int .i64 q.halt, .int .i64 q.steps, .int .i64 q.used] 27) := ⟨_, rfl⟩
            obtain ⟨br, hbx⟩ : ∃ x, x = w11.heap.size := ⟨_, rfl⟩
            have R12 : Hid (Lies w12 br 27 #[.slice A3 q.hp.objs.length c3, .int .i64 q.hp.cap, .int .i64 q.hp.last, .int .i64 q.proc, .int .i64 q.ready, .int .i64 q.halt, .int .i64 q.steps, .int .i64 q.used]) := by show Lies _ _ _ _; rw [hw, hbx]; exact Lies.new _ _ _
            have hb : Below w11.heap.size w11 w12 := by rw [hw]; exact below_alloc _ _
            rw [← hw, ← hbx]
            have ne_X_R : Hid ((w.heap.size) ≠ br) := by show _ ≠ _; rw [hbx]; exact Nat.ne_of_lt X11.out.lt
            have ne_P_R : Hid (bp ≠ br) := by show _ ≠ _; rw [hbx]; exact Nat.ne_of_lt P11.out.lt
            have at_R : Hid (br = w11.heap.size) := hbx
            have le_HB_R : Hid (w.heap.size ≤ br) := by show _ ≤ _; rw [hbx]; exact HB11.out.size
            clear hbx hw
            have HALR := hid hb
            have HB12 := hid (then_w HB11.out hb)
            have X12 := hid (X11.out.later hb)
            have P12 := hid (P11.out.later hb)
            have OX12 := hid (OX11.out.below hb)
            have OA12 := hid (OA11.out.below hb)
            have OB12 := hid (OB11.out.below hb)
            clear hb
            clear HB11 X11 P11 OX11 OA11 OB11
            have hl1 : ((Lv.length : Int) == (q.hp.objs.length : Int)) = true := by rw [HLN.out]; simp
            have x0 := X12.out.cell 0
            have x1 := X12.out.cell 1
            have x2 := X12.out.cell 2
            have x3 := X12.out.cell 3
            have x4 := X12.out.cell 4
            have x5 := X12.out.cell 5
            have x6 := X12.out.cell 6
            have x7 := X12.out.cell 7
            simp only [List.getElem?_toArray, List.getElem?_cons_zero, List.getElem?_cons_succ] at x0 x1 x2 x3 x4 x5 x6 x7
            have p_0 := P12.out.cell 0
            have p_1 := P12.out.cell 1
            have p_2 := P12.out.cell 2
            have p_3 := P12.out.cell 3
            have p_4 := P12.out.cell 4
            have p_5 := P12.out.cell 5
            have p_6 := P12.out.cell 6
            have p_7 := P12.out.cell 7
            simp only [List.getElem?_toArray, List.getElem?_cons_zero, List.getElem?_cons_succ] at p_0 p_1 p_2 p_3 p_4 p_5 p_6 p_7
            have r_0 := R12.out.cell 0
            have r_1 := R12.out.cell 1
            have r_2 := R12.out.cell 2
            have r_3 := R12.out.cell 3
            have r_4 := R12.out.cell 4
            have r_5 := R12.out.cell 5
            have r_6 := R12.out.cell 6
            have r_7 := R12.out.cell 7
            simp only [List.getElem?_toArray, List.getElem?_cons_zero, List.getElem?_cons_succ] at r_0 r_1 r_2 r_3 r_4 r_5 r_6 r_7
            go_wp2_with fail
            refine (rone_any15 q A2 A3 c2 c3 _ OA12.out OB12.out HFQ.out).mono ?_
            rintro e w13 ⟨rfl, hb⟩
            clear x0 x1 x2 x3 x4 x5 x6 x7 p_0 p_1 p_2 p_3 p_4 p_5 p_6 p_7 r_0 r_1 r_2 r_3 r_4 r_5 r_6 r_7
            have HB13 := hid (then_w HB12.out hb)
            have X13 := hid (X12.out.later hb)
            have P13 := hid (P12.out.later hb)
            have R13 := hid (R12.out.later hb)
            have OX13 := hid (OX12.out.below hb)
            have OA13 := hid (OA12.out.below hb)
            have OB13 := hid (OB12.out.below hb)
            clear hb
            clear HB12 X12 P12 R12 OX12 OA12 OB12
            go_wp2_with fail
            go_ret
            exact ⟨rfl, HB13.out⟩
end Go.Proofs.YtnilempeldlieaaGreat
