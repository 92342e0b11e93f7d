/- ShapeTells walked: whatever state, it answers true. -/
import Derived.Test.YtnilempeldlieaaGreatWSX15
import Derived.Test.YtnilempeldlieaaGreatWSG15
import Derived.Test.YtnilempeldlieaaGreatWSH15
import Derived.Test.YtnilempeldlieaaGreatM04
namespace Go.Proofs.YtnilempeldlieaaGreat
open Go.RowKit
set_option maxRecDepth 100000
theorem rckL15 {s : St} {en : Int} (he : ckI s = en) (A : Option Addr) (c : Nat) (w : World) (hs : ObsR w A s.hp.objs) (fit : s.hp.Fit) : Calls Tryz.prog 11 #[.agg #[.slice A s.hp.objs.length c, .int .i64 s.hp.cap, .int .i64 s.hp.last, .int .i64 s.proc, .int .i64 s.ready, .int .i64 s.halt, .int .i64 s.steps, .int .i64 s.used]] w fun e w' => e = .returned (.int .i64 en) ∧ Below w.heap.size w w' := by subst he; exact rck_any15 s A c w hs fit
theorem rcolL15 {s t : St} {en : Int} (ht : coS s = t) (he : ckI s = en) (A : Option Addr) (c : Nat) (w : World) (hs : ObsR w A s.hp.objs) (fit : s.hp.Fit) : Calls Tryz.prog 9 #[.agg #[.slice A s.hp.objs.length c, .int .i64 s.hp.cap, .int .i64 s.hp.last, .int .i64 s.proc, .int .i64 s.ready, .int .i64 s.halt, .int .i64 s.steps, .int .i64 s.used]] w (StE15 w t en) := by subst ht he; exact rcol_any15 s A c w hs fit
theorem rootsL15 {s : St} {L : List Int} (hL : rtL s = L) (A : Option Addr) (c : Nat) (w : World) (hs : ObsR w A s.hp.objs) (fit : s.hp.Fit) : Calls Tryz.prog 13 #[.agg #[.slice A s.hp.objs.length c, .int .i64 s.hp.cap, .int .i64 s.hp.last, .int .i64 s.proc, .int .i64 s.ready, .int .i64 s.halt, .int .i64 s.steps, .int .i64 s.used]] w (IntsOf15 w L) := by subst hL; exact croots_any15 s A c w hs fit
theorem rrootsL15 {s : St} {L : List Int} (hL : rtL s = L) (A : Option Addr) (c : Nat) (w : World) (hs : ObsR w A s.hp.objs) (fit : s.hp.Fit) : Calls Tryz.prog 14 #[.agg #[.slice A s.hp.objs.length c, .int .i64 s.hp.cap, .int .i64 s.hp.last, .int .i64 s.proc, .int .i64 s.ready, .int .i64 s.halt, .int .i64 s.steps, .int .i64 s.used]] w (IntsOf15 w L) := by subst hL; exact rroots_any15 s A c w hs fit
theorem intsL15 (L : List Int) (A B : Option Addr) (c d : Nat) (w : World) (ha : IntsR w A L) (hb : IntsR w B L) (hl : L.length ≤ 14) : Calls Tryz.prog 12 #[.slice A L.length c, .slice B L.length d] w fun e w' => e = .returned (.bool true) ∧ Below w.heap.size w w' := by
  have := rints_any L L A B c d w ha hb (by omega)
  simpa using this
theorem zfit15 : zeroS.hp.Fit := ⟨by decide, fun o ho => by cases ho⟩
theorem cofit15 (s : St) : (coS s).hp.Fit := by
  cases hx : ckB s
  · rw [coS_no hx]; exact zfit15
  · rw [coS_yes hx]; exact co_fit15 (ck_iff.1 hx)
set_option maxHeartbeats 4000000 in
theorem ltells_any15 (s : St) (A : Option Addr) (c : Nat) (w : World) (hsX : ObsR w A s.hp.objs) (fitX : s.hp.Fit) :
    Calls Tryz.prog 3 #[.agg #[.slice A s.hp.objs.length c, .int .i64 s.hp.cap, .int .i64 s.hp.last, .int .i64 s.proc, .int .i64 s.ready, .int .i64 s.halt, .int .i64 s.steps, .int .i64 s.used]] w fun e w' => e = .returned (.bool (true)) ∧ Below w.heap.size w w' := by
  obtain ⟨w0, hw0⟩ : ∃ w0, w0 = (w.alloc (.cells #[.slice A s.hp.objs.length c, .int .i64 s.hp.cap, .int .i64 s.hp.last, .int .i64 s.proc, .int .i64 s.ready, .int .i64 s.halt, .int .i64 s.steps, .int .i64 s.used] 27)) := ⟨_, rfl⟩
  have HB0 : Hid (Below w.heap.size w w0) := by show Below _ _ _; rw [hw0]; exact below_alloc w _
  have X0 : Hid (Lies w0 (w.heap.size) 27 #[.slice A s.hp.objs.length c, .int .i64 s.hp.cap, .int .i64 s.hp.last, .int .i64 s.proc, .int .i64 s.ready, .int .i64 s.halt, .int .i64 s.steps, .int .i64 s.used]) := by
    show Lies _ _ _ _
    rw [hw0]
    have := Lies.new w 27 #[.slice A s.hp.objs.length c, .int .i64 s.hp.cap, .int .i64 s.hp.last, .int .i64 s.proc, .int .i64 s.ready, .int .i64 s.halt, .int .i64 s.steps, .int .i64 s.used]
    simpa [Hid] using this
  have OX0 := hid (hsX.below HB0.out)
  have HFX := hid fitX
  have hflX := fitX.1
  clear hsX fitX
  go_enter Tryz.func3, Tryz.ntmps3
  go_upto_region 1 with fail
  rw [← hw0]
  clear hw0
  have x0 := X0.out.cell 0
  have x1 := X0.out.cell 1
  have x2 := X0.out.cell 2
  have x3 := X0.out.cell 3
  have x4 := X0.out.cell 4
  have x5 := X0.out.cell 5
  have x6 := X0.out.cell 6
  have x7 := X0.out.cell 7
  simp only [List.getElem?_toArray, List.getElem?_cons_zero, List.getElem?_cons_succ] at x0 x1 x2 x3 x4 x5 x6 x7
  go_wp2_with fail
  refine (small_ok s.hp A c _ OX0.out HFX.out).mono ?_
  rintro e w1 ⟨sm, rfl, hb⟩
  clear x0 x1 x2 x3 x4 x5 x6 x7
  have HB1 := hid (then_w HB0.out hb)
  have X1 := hid (X0.out.later hb)
  have OX1 := hid (OX0.out.below hb)
  clear hb
  clear HB0 X0 OX0
  cases sm
  · have x0 := X1.out.cell 0
    have x1 := X1.out.cell 1
    have x2 := X1.out.cell 2
    have x3 := X1.out.cell 3
    have x4 := X1.out.cell 4
    have x5 := X1.out.cell 5
    have x6 := X1.out.cell 6
    have x7 := X1.out.cell 7
    simp only [List.getElem?_toArray, List.getElem?_cons_zero, List.getElem?_cons_succ] at x0 x1 x2 x3 x4 x5 x6 x7
    go_wp2_with fail
    refine (fixed15_any _).mono ?_
    rintro e w2 ⟨rfl, hb⟩
    clear x0 x1 x2 x3 x4 x5 x6 x7
    have HB2 := hid (then_w HB1.out hb)
    have X2 := hid (X1.out.later hb)
    have OX2 := hid (OX1.out.below hb)
    clear hb
    clear HB1 X1 OX1
    go_wp2_with fail
    go_ret
    exact ⟨rfl, HB2.out⟩
  · by_cases q1 : 60 < s.hp.objs.length
    · have q' : (60 : Int) < (s.hp.objs.length : Int) := by omega
      have x0 := X1.out.cell 0
      have x1 := X1.out.cell 1
      have x2 := X1.out.cell 2
      have x3 := X1.out.cell 3
      have x4 := X1.out.cell 4
      have x5 := X1.out.cell 5
      have x6 := X1.out.cell 6
      have x7 := X1.out.cell 7
      simp only [List.getElem?_toArray, List.getElem?_cons_zero, List.getElem?_cons_succ] at x0 x1 x2 x3 x4 x5 x6 x7
      go_wp2_with fail
      refine (fixed15_any _).mono ?_
      rintro e w2 ⟨rfl, hb⟩
      clear x0 x1 x2 x3 x4 x5 x6 x7
      have HB2 := hid (then_w HB1.out hb)
      have X2 := hid (X1.out.later hb)
      have OX2 := hid (OX1.out.below hb)
      clear hb
      clear HB1 X1 OX1
      go_wp2_with fail
      go_ret
      exact ⟨rfl, HB2.out⟩
    · have q' : ¬ (60 : Int) < (s.hp.objs.length : Int) := by omega
      obtain ⟨q, hq⟩ : ∃ q, q = coS s := ⟨_, rfl⟩
      have HFQ : Hid q.hp.Fit := by show q.hp.Fit; rw [hq]; exact cofit15 s
      have HQ := hid hq.symm
      obtain ⟨cI, hcI⟩ : ∃ x, x = ckI s := ⟨_, rfl⟩
      have HCI := hid hcI.symm
      obtain ⟨Lr, hLr⟩ : ∃ x, x = rtL s := ⟨_, rfl⟩
      have HLr := hid hLr.symm
      have HLE : Hid (Lr.length ≤ 14) := by show _ ≤ _; rw [hLr]; exact rtL_le s
      clear hq hcI hLr
      have x0 := X1.out.cell 0
      have x1 := X1.out.cell 1
      have x2 := X1.out.cell 2
      have x3 := X1.out.cell 3
      have x4 := X1.out.cell 4
      have x5 := X1.out.cell 5
      have x6 := X1.out.cell 6
      have x7 := X1.out.cell 7
      simp only [List.getElem?_toArray, List.getElem?_cons_zero, List.getElem?_cons_succ] at x0 x1 x2 x3 x4 x5 x6 x7
      go_wp2_with fail
      refine (ccolL15 HQ.out HCI.out A c _ OX1.out HFX.out).mono ?_
      rintro e w2 ⟨A2, c2, rfl, ob2, hb⟩
      clear x0 x1 x2 x3 x4 x5 x6 x7
      have HB2 := hid (then_w HB1.out hb)
      have X2 := hid (X1.out.later hb)
      have OX2 := hid (OX1.out.below hb)
      clear hb
      clear HB1 X1 OX1
      have OA2 := hid ob2
      clear ob2
      go_upto_region 4 with fail
      obtain ⟨w3, hw⟩ : ∃ x, x = w2.alloc (.cells #[.slice A2 q.hp.objs.length c2, .int .i64 q.hp.cap, .int .i64 q.hp.last, .int .i64 q.proc, .int .i64 q.ready, .int .i64 q.halt, .int .i64 q.steps, .int .i64 q.used] 27) := ⟨_, rfl⟩
      obtain ⟨bp, hbx⟩ : ∃ x, x = w2.heap.size := ⟨_, rfl⟩
      have P3 : Hid (Lies w3 bp 27 #[.slice A2 q.hp.objs.length c2, .int .i64 q.hp.cap, .int .i64 q.hp.last, .int .i64 q.proc, .int .i64 q.ready, .int .i64 q.halt, .int .i64 q.steps, .int .i64 q.used]) := by show Lies _ _ _ _; rw [hw, hbx]; exact Lies.new _ _ _
      have hb : Below w2.heap.size w2 w3 := by rw [hw]; exact below_alloc _ _
      rw [← hw, ← hbx]
      have ne_X_P : Hid ((w.heap.size) ≠ bp) := by show _ ≠ _; rw [hbx]; exact Nat.ne_of_lt X2.out.lt
      have at_P : Hid (bp = w2.heap.size) := hbx
      have le_HB_P : Hid (w.heap.size ≤ bp) := by show _ ≤ _; rw [hbx]; exact HB2.out.size
      clear hbx hw
      have HALP := hid hb
      have HB3 := hid (then_w HB2.out hb)
      have X3 := hid (X2.out.later hb)
      have OX3 := hid (OX2.out.below hb)
      have OA3 := hid (OA2.out.below hb)
      clear hb
      clear HB2 X2 OX2 OA2
      have x0 := X3.out.cell 0
      have x1 := X3.out.cell 1
      have x2 := X3.out.cell 2
      have x3 := X3.out.cell 3
      have x4 := X3.out.cell 4
      have x5 := X3.out.cell 5
      have x6 := X3.out.cell 6
      have x7 := X3.out.cell 7
      simp only [List.getElem?_toArray, List.getElem?_cons_zero, List.getElem?_cons_succ] at x0 x1 x2 x3 x4 x5 x6 x7
      go_wp2_with fail
      refine (rcolL15 HQ.out HCI.out A c _ OX3.out HFX.out).mono ?_
      rintro e w4 ⟨A3, c3, rfl, ob3, hb⟩
      clear x0 x1 x2 x3 x4 x5 x6 x7
      have HB4 := hid (then_w HB3.out hb)
      have X4 := hid (X3.out.later hb)
      have P4 := hid (P3.out.later hb)
      have OX4 := hid (OX3.out.below hb)
      have OA4 := hid (OA3.out.below hb)
      clear hb
      clear HB3 X3 P3 OX3 OA3
      have OB4 := hid ob3
      clear ob3
      go_upto_region 5 with fail
      obtain ⟨w5, hw⟩ : ∃ x, x = w4.alloc (.cells #[.slice A3 q.hp.objs.length c3, .int .i64 q.hp.cap, .int .i64 q.hp.last, .int .i64 q.proc, .int .i64 q.ready, .int .i64 q.halt, .int .i64 q.steps, .int .i64 q.used] 27) := ⟨_, rfl⟩
      obtain ⟨br, hbx⟩ : ∃ x, x = w4.heap.size := ⟨_, rfl⟩
      have R5 : Hid (Lies w5 br 27 #[.slice A3 q.hp.objs.length c3, .int .i64 q.hp.cap, .int .i64 q.hp.last, .int .i64 q.proc, .int .i64 q.ready, .int .i64 q.halt, .int .i64 q.steps, .int .i64 q.used]) := by show Lies _ _ _ _; rw [hw, hbx]; exact Lies.new _ _ _
      have hb : Below w4.heap.size w4 w5 := by rw [hw]; exact below_alloc _ _
      rw [← hw, ← hbx]
      have ne_X_R : Hid ((w.heap.size) ≠ br) := by show _ ≠ _; rw [hbx]; exact Nat.ne_of_lt X4.out.lt
      have ne_P_R : Hid (bp ≠ br) := by show _ ≠ _; rw [hbx]; exact Nat.ne_of_lt P4.out.lt
      have at_R : Hid (br = w4.heap.size) := hbx
      have le_HB_R : Hid (w.heap.size ≤ br) := by show _ ≤ _; rw [hbx]; exact HB4.out.size
      clear hbx hw
      have HALR := hid hb
      have HB5 := hid (then_w HB4.out hb)
      have X5 := hid (X4.out.later hb)
      have P5 := hid (P4.out.later hb)
      have OX5 := hid (OX4.out.below hb)
      have OA5 := hid (OA4.out.below hb)
      have OB5 := hid (OB4.out.below hb)
      clear hb
      clear HB4 X4 P4 OX4 OA4 OB4
      have x0 := X5.out.cell 0
      have x1 := X5.out.cell 1
      have x2 := X5.out.cell 2
      have x3 := X5.out.cell 3
      have x4 := X5.out.cell 4
      have x5 := X5.out.cell 5
      have x6 := X5.out.cell 6
      have x7 := X5.out.cell 7
      simp only [List.getElem?_toArray, List.getElem?_cons_zero, List.getElem?_cons_succ] at x0 x1 x2 x3 x4 x5 x6 x7
      have p_0 := P5.out.cell 0
      have p_1 := P5.out.cell 1
      have p_2 := P5.out.cell 2
      have p_3 := P5.out.cell 3
      have p_4 := P5.out.cell 4
      have p_5 := P5.out.cell 5
      have p_6 := P5.out.cell 6
      have p_7 := P5.out.cell 7
      simp only [List.getElem?_toArray, List.getElem?_cons_zero, List.getElem?_cons_succ] at p_0 p_1 p_2 p_3 p_4 p_5 p_6 p_7
      have r_0 := R5.out.cell 0
      have r_1 := R5.out.cell 1
      have r_2 := R5.out.cell 2
      have r_3 := R5.out.cell 3
      have r_4 := R5.out.cell 4
      have r_5 := R5.out.cell 5
      have r_6 := R5.out.cell 6
      have r_7 := R5.out.cell 7
      simp only [List.getElem?_toArray, List.getElem?_cons_zero, List.getElem?_cons_succ] at r_0 r_1 r_2 r_3 r_4 r_5 r_6 r_7
      go_wp2_with fail
      refine wp_region_held_drew (S := (fun w' => w'.cell? ⟨(w.heap.size), 0, none⟩ = some (.slice A s.hp.objs.length c) ∧ w'.cell? ⟨(w.heap.size), 1, none⟩ = some (.int .i64 s.hp.cap) ∧ w'.cell? ⟨(w.heap.size), 2, none⟩ = some (.int .i64 s.hp.last) ∧ w'.cell? ⟨(w.heap.size), 3, none⟩ = some (.int .i64 s.proc) ∧ w'.cell? ⟨(w.heap.size), 4, none⟩ = some (.int .i64 s.ready) ∧ w'.cell? ⟨(w.heap.size), 5, none⟩ = some (.int .i64 s.halt) ∧ w'.cell? ⟨(w.heap.size), 6, none⟩ = some (.int .i64 s.steps) ∧ w'.cell? ⟨(w.heap.size), 7, none⟩ = some (.int .i64 s.used) ∧ w'.cell? ⟨bp, 0, none⟩ = some (.slice A2 q.hp.objs.length c2) ∧ w'.cell? ⟨bp, 1, none⟩ = some (.int .i64 q.hp.cap) ∧ w'.cell? ⟨bp, 2, none⟩ = some (.int .i64 q.hp.last) ∧ w'.cell? ⟨bp, 3, none⟩ = some (.int .i64 q.proc) ∧ w'.cell? ⟨bp, 4, none⟩ = some (.int .i64 q.ready) ∧ w'.cell? ⟨bp, 5, none⟩ = some (.int .i64 q.halt) ∧ w'.cell? ⟨bp, 6, none⟩ = some (.int .i64 q.steps) ∧ w'.cell? ⟨bp, 7, none⟩ = some (.int .i64 q.used) ∧ w'.cell? ⟨br, 0, none⟩ = some (.slice A3 q.hp.objs.length c3) ∧ w'.cell? ⟨br, 1, none⟩ = some (.int .i64 q.hp.cap) ∧ w'.cell? ⟨br, 2, none⟩ = some (.int .i64 q.hp.last) ∧ w'.cell? ⟨br, 3, none⟩ = some (.int .i64 q.proc) ∧ w'.cell? ⟨br, 4, none⟩ = some (.int .i64 q.ready) ∧ w'.cell? ⟨br, 5, none⟩ = some (.int .i64 q.halt) ∧ w'.cell? ⟨br, 6, none⟩ = some (.int .i64 q.steps) ∧ w'.cell? ⟨br, 7, none⟩ = some (.int .i64 q.used))) (by kernel_rfl) ?_ (fun hH0 => ?_)
      · exact ⟨x0, x1, x2, x3, x4, x5, x6, x7, p_0, p_1, p_2, p_3, p_4, p_5, p_6, p_7, r_0, r_1, r_2, r_3, r_4, r_5, r_6, r_7⟩
      refine wpAnyH_ready (rs := [0]) (by kernel_rfl) (by simp) ?_
      refine AllReadyH.cons (i := 0) (o := { dst := some 29, op := Go.Op.call { callee := Go.Callee.value (Go.Operand.func 7), args := #[], argTypes := #[] }, type := 4, pos := "law.go:39", after := #[], guard := none }) rfl (fun K hK => ?_) AllReadyH.nil
      go_simp
      go_at_call 7
      refine (fixed15_any _).mono ?_
      rintro e v1 ⟨rfl, hb⟩
      have HV1 := hid (then_b (Below.refl _ w5).drew hb)
      refine hK.out _ _ ?_ (fun hH1 => ?_)
      · exact ⟨cell_later hb hH0.1, cell_later hb hH0.2.1, cell_later hb hH0.2.2.1, cell_later hb hH0.2.2.2.1, cell_later hb hH0.2.2.2.2.1, cell_later hb hH0.2.2.2.2.2.1, cell_later hb hH0.2.2.2.2.2.2.1, cell_later hb hH0.2.2.2.2.2.2.2.1, cell_later hb hH0.2.2.2.2.2.2.2.2.1, cell_later hb hH0.2.2.2.2.2.2.2.2.2.1, cell_later hb hH0.2.2.2.2.2.2.2.2.2.2.1, cell_later hb hH0.2.2.2.2.2.2.2.2.2.2.2.1, cell_later hb hH0.2.2.2.2.2.2.2.2.2.2.2.2.1, cell_later hb hH0.2.2.2.2.2.2.2.2.2.2.2.2.2.1, cell_later hb hH0.2.2.2.2.2.2.2.2.2.2.2.2.2.2.1, cell_later hb hH0.2.2.2.2.2.2.2.2.2.2.2.2.2.2.2.1, cell_later hb hH0.2.2.2.2.2.2.2.2.2.2.2.2.2.2.2.2.1, cell_later hb hH0.2.2.2.2.2.2.2.2.2.2.2.2.2.2.2.2.2.1, cell_later hb hH0.2.2.2.2.2.2.2.2.2.2.2.2.2.2.2.2.2.2.1, cell_later hb hH0.2.2.2.2.2.2.2.2.2.2.2.2.2.2.2.2.2.2.2.1, cell_later hb hH0.2.2.2.2.2.2.2.2.2.2.2.2.2.2.2.2.2.2.2.2.1, cell_later hb hH0.2.2.2.2.2.2.2.2.2.2.2.2.2.2.2.2.2.2.2.2.2.1, cell_later hb hH0.2.2.2.2.2.2.2.2.2.2.2.2.2.2.2.2.2.2.2.2.2.2.1, cell_later hb hH0.2.2.2.2.2.2.2.2.2.2.2.2.2.2.2.2.2.2.2.2.2.2.2⟩
      clear hK K
      try simp only [Act.put, List.setIfInBounds_toArray, List.set_cons_zero, List.set_cons_succ]
      clear hb
      refine wpAnyH_take (i := 1) (oi := { dst := some 30, op := Go.Op.move (Go.Operand.tmp 29), type := 4, pos := "law.go:39", after := #[{ on := 0, ground := Go.Ground.data }, { on := 0, ground := Go.Ground.chain }], guard := none }) (v := ?vv1) rfl (by kernel_rfl) (by kernel_rfl) (by kernel_rfl) (fun _ _ _ h => h) (Or.inl ⟨by rfl, ?hy1⟩) (by assumption) ?rr1
      case hy1 => intro w hSw; (try dsimp only at hSw); go_simp; all_goals with_reducible rfl
      try simp only [Act.put, List.setIfInBounds_toArray, List.set_cons_zero, List.set_cons_succ]
      refine wpAnyH_take (i := 2) (oi := { dst := some 31, op := Go.Op.load 27 (Go.Operand.tmp 1), type := 27, pos := "law.go:39", after := #[{ on := 1, ground := Go.Ground.guard }], guard := some (1, true) }) (v := ?vv2) rfl (by kernel_rfl) (by kernel_rfl) (by kernel_rfl) (fun _ _ _ h => h) (Or.inl ⟨by rfl, ?hy2⟩) (by assumption) ?rr2
      case hy2 => intro w hSw; (try dsimp only at hSw); go_simp; all_goals with_reducible rfl
      try simp only [Act.put, List.setIfInBounds_toArray, List.set_cons_zero, List.set_cons_succ]
      refine wpAnyH_take (i := 4) (oi := { dst := some 33, op := Go.Op.load 27 (Go.Operand.tmp 1), type := 27, pos := "law.go:39", after := #[{ on := 1, ground := Go.Ground.guard }], guard := some (1, true) }) (v := ?vv3) rfl (by kernel_rfl) (by kernel_rfl) (by kernel_rfl) (fun _ _ _ h => h) (Or.inl ⟨by rfl, ?hy3⟩) (by assumption) ?rr3
      case hy3 => intro w hSw; (try dsimp only at hSw); go_simp; all_goals with_reducible rfl
      try simp only [Act.put, List.setIfInBounds_toArray, List.set_cons_zero, List.set_cons_succ]
      refine wpAnyH_ready (rs := [3]) (by kernel_rfl) (by simp) ?_
      refine AllReadyH.cons (i := 3) (o := { dst := some 32, op := Go.Op.call { callee := Go.Callee.value (Go.Operand.func 10), args := #[Go.Operand.tmp 31], argTypes := #[27] }, type := 25, pos := "law.go:39", after := #[{ on := 2, ground := Go.Ground.data }, { on := 1, ground := Go.Ground.chain }, { on := 1, ground := Go.Ground.guard }], guard := some (1, true) }) rfl (fun K hK => ?_) AllReadyH.nil
      go_simp
      go_at_call 10
      refine (cckL15 HCI.out A c _ (OX5.out.below HV1.out) HFX.out).mono ?_
      rintro e v2 ⟨rfl, hb⟩
      have HV2 := hid (then_b HV1.out hb)
      refine hK.out _ _ ?_ (fun hH2 => ?_)
      · exact ⟨cell_later hb hH1.1, cell_later hb hH1.2.1, cell_later hb hH1.2.2.1, cell_later hb hH1.2.2.2.1, cell_later hb hH1.2.2.2.2.1, cell_later hb hH1.2.2.2.2.2.1, cell_later hb hH1.2.2.2.2.2.2.1, cell_later hb hH1.2.2.2.2.2.2.2.1, cell_later hb hH1.2.2.2.2.2.2.2.2.1, cell_later hb hH1.2.2.2.2.2.2.2.2.2.1, cell_later hb hH1.2.2.2.2.2.2.2.2.2.2.1, cell_later hb hH1.2.2.2.2.2.2.2.2.2.2.2.1, cell_later hb hH1.2.2.2.2.2.2.2.2.2.2.2.2.1, cell_later hb hH1.2.2.2.2.2.2.2.2.2.2.2.2.2.1, cell_later hb hH1.2.2.2.2.2.2.2.2.2.2.2.2.2.2.1, cell_later hb hH1.2.2.2.2.2.2.2.2.2.2.2.2.2.2.2.1, cell_later hb hH1.2.2.2.2.2.2.2.2.2.2.2.2.2.2.2.2.1, cell_later hb hH1.2.2.2.2.2.2.2.2.2.2.2.2.2.2.2.2.2.1, cell_later hb hH1.2.2.2.2.2.2.2.2.2.2.2.2.2.2.2.2.2.2.1, cell_later hb hH1.2.2.2.2.2.2.2.2.2.2.2.2.2.2.2.2.2.2.2.1, cell_later hb hH1.2.2.2.2.2.2.2.2.2.2.2.2.2.2.2.2.2.2.2.2.1, cell_later hb hH1.2.2.2.2.2.2.2.2.2.2.2.2.2.2.2.2.2.2.2.2.2.1, cell_later hb hH1.2.2.2.2.2.2.2.2.2.2.2.2.2.2.2.2.2.2.2.2.2.2.1, cell_later hb hH1.2.2.2.2.2.2.2.2.2.2.2.2.2.2.2.2.2.2.2.2.2.2.2⟩
      clear hK K
      try simp only [Act.put, List.setIfInBounds_toArray, List.set_cons_zero, List.set_cons_succ]
      clear hb
      refine wpAnyH_ready (rs := [5]) (by kernel_rfl) (by simp) ?_
      refine AllReadyH.cons (i := 5) (o := { dst := some 34, op := Go.Op.call { callee := Go.Callee.value (Go.Operand.func 11), args := #[Go.Operand.tmp 33], argTypes := #[27] }, type := 25, pos := "law.go:39", after := #[{ on := 4, ground := Go.Ground.data }, { on := 3, ground := Go.Ground.chain }, { on := 1, ground := Go.Ground.guard }], guard := some (1, true) }) rfl (fun K hK => ?_) AllReadyH.nil
      go_simp
      go_at_call 11
      refine (rckL15 HCI.out A c _ (OX5.out.below HV2.out) HFX.out).mono ?_
      rintro e v3 ⟨rfl, hb⟩
      have HV3 := hid (then_b HV2.out hb)
      refine hK.out _ _ ?_ (fun hH3 => ?_)
      · exact ⟨cell_later hb hH2.1, cell_later hb hH2.2.1, cell_later hb hH2.2.2.1, cell_later hb hH2.2.2.2.1, cell_later hb hH2.2.2.2.2.1, cell_later hb hH2.2.2.2.2.2.1, cell_later hb hH2.2.2.2.2.2.2.1, cell_later hb hH2.2.2.2.2.2.2.2.1, cell_later hb hH2.2.2.2.2.2.2.2.2.1, cell_later hb hH2.2.2.2.2.2.2.2.2.2.1, cell_later hb hH2.2.2.2.2.2.2.2.2.2.2.1, cell_later hb hH2.2.2.2.2.2.2.2.2.2.2.2.1, cell_later hb hH2.2.2.2.2.2.2.2.2.2.2.2.2.1, cell_later hb hH2.2.2.2.2.2.2.2.2.2.2.2.2.2.1, cell_later hb hH2.2.2.2.2.2.2.2.2.2.2.2.2.2.2.1, cell_later hb hH2.2.2.2.2.2.2.2.2.2.2.2.2.2.2.2.1, cell_later hb hH2.2.2.2.2.2.2.2.2.2.2.2.2.2.2.2.2.1, cell_later hb hH2.2.2.2.2.2.2.2.2.2.2.2.2.2.2.2.2.2.1, cell_later hb hH2.2.2.2.2.2.2.2.2.2.2.2.2.2.2.2.2.2.2.1, cell_later hb hH2.2.2.2.2.2.2.2.2.2.2.2.2.2.2.2.2.2.2.2.1, cell_later hb hH2.2.2.2.2.2.2.2.2.2.2.2.2.2.2.2.2.2.2.2.2.1, cell_later hb hH2.2.2.2.2.2.2.2.2.2.2.2.2.2.2.2.2.2.2.2.2.2.1, cell_later hb hH2.2.2.2.2.2.2.2.2.2.2.2.2.2.2.2.2.2.2.2.2.2.2.1, cell_later hb hH2.2.2.2.2.2.2.2.2.2.2.2.2.2.2.2.2.2.2.2.2.2.2.2⟩
      clear hK K
      try simp only [Act.put, List.setIfInBounds_toArray, List.set_cons_zero, List.set_cons_succ]
      clear hb
      refine wpAnyH_take (i := 6) (oi := { dst := some 35, op := Go.Op.binOp Go.BinOp.eql 25 (Go.Operand.tmp 32) (Go.Operand.tmp 34) 25, type := 4, pos := "law.go:39", after := #[{ on := 3, ground := Go.Ground.data }, { on := 5, ground := Go.Ground.data }, { on := 1, ground := Go.Ground.guard }], guard := some (1, true) }) (v := ?vv4) rfl (by kernel_rfl) (by kernel_rfl) (by kernel_rfl) (fun _ _ _ h => h) (Or.inl ⟨by rfl, ?hy4⟩) (by assumption) ?rr4
      case hy4 => intro w hSw; (try dsimp only at hSw); go_simp; all_goals with_reducible rfl
      try simp only [Act.put, List.setIfInBounds_toArray, List.set_cons_zero, List.set_cons_succ]
      refine wpAnyH_take (i := 7) (oi := { dst := some 36, op := Go.Op.pick (Go.Operand.tmp 30) (Go.Operand.tmp 35) (Go.Operand.const (Go.Value.bool false)), type := 4, pos := "law.go:39", after := #[{ on := 1, ground := Go.Ground.data }, { on := 6, ground := Go.Ground.data }], guard := none }) (v := ?vv5) rfl (by kernel_rfl) (by kernel_rfl) (by kernel_rfl) (fun _ _ _ h => h) (Or.inl ⟨by rfl, ?hy5⟩) (by assumption) ?rr5
      case hy5 => intro w hSw; (try dsimp only at hSw); go_simp; all_goals with_reducible rfl
      try simp only [Act.put, List.setIfInBounds_toArray, List.set_cons_zero, List.set_cons_succ]
      refine wpAnyH_take (i := 8) (oi := { dst := some 37, op := Go.Op.move (Go.Operand.tmp 36), type := 4, pos := "law.go:39", after := #[{ on := 7, ground := Go.Ground.data }, { on := 5, ground := Go.Ground.chain }], guard := none }) (v := ?vv6) rfl (by kernel_rfl) (by kernel_rfl) (by kernel_rfl) (fun _ _ _ h => h) (Or.inl ⟨by rfl, ?hy6⟩) (by assumption) ?rr6
      case hy6 => intro w hSw; (try dsimp only at hSw); go_simp; all_goals with_reducible rfl
      try simp only [Act.put, List.setIfInBounds_toArray, List.set_cons_zero, List.set_cons_succ]
      refine wpAnyH_take (i := 9) (oi := { dst := some 38, op := Go.Op.load 27 (Go.Operand.tmp 1), type := 27, pos := "law.go:39", after := #[{ on := 8, ground := Go.Ground.guard }], guard := some (8, true) }) (v := ?vv7) rfl (by kernel_rfl) (by kernel_rfl) (by kernel_rfl) (fun _ _ _ h => h) (Or.inl ⟨by rfl, ?hy7⟩) (by assumption) ?rr7
      case hy7 => intro w hSw; (try dsimp only at hSw); go_simp; all_goals with_reducible rfl
      try simp only [Act.put, List.setIfInBounds_toArray, List.set_cons_zero, List.set_cons_succ]
      refine wpAnyH_take (i := 11) (oi := { dst := some 40, op := Go.Op.load 27 (Go.Operand.tmp 1), type := 27, pos := "law.go:39", after := #[{ on := 8, ground := Go.Ground.guard }], guard := some (8, true) }) (v := ?vv8) rfl (by kernel_rfl) (by kernel_rfl) (by kernel_rfl) (fun _ _ _ h => h) (Or.inl ⟨by rfl, ?hy8⟩) (by assumption) ?rr8
      case hy8 => intro w hSw; (try dsimp only at hSw); go_simp; all_goals with_reducible rfl
      try simp only [Act.put, List.setIfInBounds_toArray, List.set_cons_zero, List.set_cons_succ]
      refine wpAnyH_ready (rs := [10]) (by kernel_rfl) (by simp) ?_
      refine AllReadyH.cons (i := 10) (o := { dst := some 39, op := Go.Op.call { callee := Go.Callee.value (Go.Operand.func 13), args := #[Go.Operand.tmp 38], argTypes := #[27] }, type := 34, pos := "law.go:39", after := #[{ on := 9, ground := Go.Ground.data }, { on := 8, ground := Go.Ground.chain }, { on := 8, ground := Go.Ground.guard }], guard := some (8, true) }) rfl (fun K hK => ?_) AllReadyH.nil
      go_simp
      go_at_call 13
      refine (rootsL15 HLr.out A c _ (OX5.out.below HV3.out) HFX.out).mono ?_
      rintro e v4 ⟨B1, e1, rfl, hi, hb⟩
      have HV4 := hid (then_b HV3.out hb)
      have HI1 := hid hi
      clear hi
      refine hK.out _ _ ?_ (fun hH4 => ?_)
      · exact ⟨cell_later hb hH3.1, cell_later hb hH3.2.1, cell_later hb hH3.2.2.1, cell_later hb hH3.2.2.2.1, cell_later hb hH3.2.2.2.2.1, cell_later hb hH3.2.2.2.2.2.1, cell_later hb hH3.2.2.2.2.2.2.1, cell_later hb hH3.2.2.2.2.2.2.2.1, cell_later hb hH3.2.2.2.2.2.2.2.2.1, cell_later hb hH3.2.2.2.2.2.2.2.2.2.1, cell_later hb hH3.2.2.2.2.2.2.2.2.2.2.1, cell_later hb hH3.2.2.2.2.2.2.2.2.2.2.2.1, cell_later hb hH3.2.2.2.2.2.2.2.2.2.2.2.2.1, cell_later hb hH3.2.2.2.2.2.2.2.2.2.2.2.2.2.1, cell_later hb hH3.2.2.2.2.2.2.2.2.2.2.2.2.2.2.1, cell_later hb hH3.2.2.2.2.2.2.2.2.2.2.2.2.2.2.2.1, cell_later hb hH3.2.2.2.2.2.2.2.2.2.2.2.2.2.2.2.2.1, cell_later hb hH3.2.2.2.2.2.2.2.2.2.2.2.2.2.2.2.2.2.1, cell_later hb hH3.2.2.2.2.2.2.2.2.2.2.2.2.2.2.2.2.2.2.1, cell_later hb hH3.2.2.2.2.2.2.2.2.2.2.2.2.2.2.2.2.2.2.2.1, cell_later hb hH3.2.2.2.2.2.2.2.2.2.2.2.2.2.2.2.2.2.2.2.2.1, cell_later hb hH3.2.2.2.2.2.2.2.2.2.2.2.2.2.2.2.2.2.2.2.2.2.1, cell_later hb hH3.2.2.2.2.2.2.2.2.2.2.2.2.2.2.2.2.2.2.2.2.2.2.1, cell_later hb hH3.2.2.2.2.2.2.2.2.2.2.2.2.2.2.2.2.2.2.2.2.2.2.2⟩
      clear hK K
      try simp only [Act.put, List.setIfInBounds_toArray, List.set_cons_zero, List.set_cons_succ]
      clear hb
      refine wpAnyH_ready (rs := [12]) (by kernel_rfl) (by simp) ?_
      refine AllReadyH.cons (i := 12) (o := { dst := some 41, op := Go.Op.call { callee := Go.Callee.value (Go.Operand.func 14), args := #[Go.Operand.tmp 40], argTypes := #[27] }, type := 34, pos := "law.go:39", after := #[{ on := 11, ground := Go.Ground.data }, { on := 10, ground := Go.Ground.chain }, { on := 8, ground := Go.Ground.guard }], guard := some (8, true) }) rfl (fun K hK => ?_) AllReadyH.nil
      go_simp
      go_at_call 14
      refine (rrootsL15 HLr.out A c _ (OX5.out.below HV4.out) HFX.out).mono ?_
      rintro e v5 ⟨B2, e2, rfl, hi, hb⟩
      have HV5 := hid (then_b HV4.out hb)
      have HI2 := hid hi
      replace HI1 := hid (HI1.out.below hb)
      clear hi
      refine hK.out _ _ ?_ (fun hH5 => ?_)
      · exact ⟨cell_later hb hH4.1, cell_later hb hH4.2.1, cell_later hb hH4.2.2.1, cell_later hb hH4.2.2.2.1, cell_later hb hH4.2.2.2.2.1, cell_later hb hH4.2.2.2.2.2.1, cell_later hb hH4.2.2.2.2.2.2.1, cell_later hb hH4.2.2.2.2.2.2.2.1, cell_later hb hH4.2.2.2.2.2.2.2.2.1, cell_later hb hH4.2.2.2.2.2.2.2.2.2.1, cell_later hb hH4.2.2.2.2.2.2.2.2.2.2.1, cell_later hb hH4.2.2.2.2.2.2.2.2.2.2.2.1, cell_later hb hH4.2.2.2.2.2.2.2.2.2.2.2.2.1, cell_later hb hH4.2.2.2.2.2.2.2.2.2.2.2.2.2.1, cell_later hb hH4.2.2.2.2.2.2.2.2.2.2.2.2.2.2.1, cell_later hb hH4.2.2.2.2.2.2.2.2.2.2.2.2.2.2.2.1, cell_later hb hH4.2.2.2.2.2.2.2.2.2.2.2.2.2.2.2.2.1, cell_later hb hH4.2.2.2.2.2.2.2.2.2.2.2.2.2.2.2.2.2.1, cell_later hb hH4.2.2.2.2.2.2.2.2.2.2.2.2.2.2.2.2.2.2.1, cell_later hb hH4.2.2.2.2.2.2.2.2.2.2.2.2.2.2.2.2.2.2.2.1, cell_later hb hH4.2.2.2.2.2.2.2.2.2.2.2.2.2.2.2.2.2.2.2.2.1, cell_later hb hH4.2.2.2.2.2.2.2.2.2.2.2.2.2.2.2.2.2.2.2.2.2.1, cell_later hb hH4.2.2.2.2.2.2.2.2.2.2.2.2.2.2.2.2.2.2.2.2.2.2.1, cell_later hb hH4.2.2.2.2.2.2.2.2.2.2.2.2.2.2.2.2.2.2.2.2.2.2.2⟩
      clear hK K
      try simp only [Act.put, List.setIfInBounds_toArray, List.set_cons_zero, List.set_cons_succ]
      clear hb
      refine wpAnyH_ready (rs := [13]) (by kernel_rfl) (by simp) ?_
      refine AllReadyH.cons (i := 13) (o := { dst := some 42, op := Go.Op.call { callee := Go.Callee.value (Go.Operand.func 12), args := #[Go.Operand.tmp 39, Go.Operand.tmp 41], argTypes := #[34, 34] }, type := 4, pos := "law.go:39", after := #[{ on := 10, ground := Go.Ground.data }, { on := 12, ground := Go.Ground.data }, { on := 12, ground := Go.Ground.chain }, { on := 8, ground := Go.Ground.guard }], guard := some (8, true) }) rfl (fun K hK => ?_) AllReadyH.nil
      go_simp
      go_at_call 12
      refine (intsL15 Lr B1 B2 e1 e2 _ HI1.out HI2.out HLE.out).mono ?_
      rintro e v6 ⟨rfl, hb⟩
      have HV6 := hid (then_b HV5.out hb)
      refine hK.out _ _ ?_ (fun hH6 => ?_)
      · exact ⟨cell_later hb hH5.1, cell_later hb hH5.2.1, cell_later hb hH5.2.2.1, cell_later hb hH5.2.2.2.1, cell_later hb hH5.2.2.2.2.1, cell_later hb hH5.2.2.2.2.2.1, cell_later hb hH5.2.2.2.2.2.2.1, cell_later hb hH5.2.2.2.2.2.2.2.1, cell_later hb hH5.2.2.2.2.2.2.2.2.1, cell_later hb hH5.2.2.2.2.2.2.2.2.2.1, cell_later hb hH5.2.2.2.2.2.2.2.2.2.2.1, cell_later hb hH5.2.2.2.2.2.2.2.2.2.2.2.1, cell_later hb hH5.2.2.2.2.2.2.2.2.2.2.2.2.1, cell_later hb hH5.2.2.2.2.2.2.2.2.2.2.2.2.2.1, cell_later hb hH5.2.2.2.2.2.2.2.2.2.2.2.2.2.2.1, cell_later hb hH5.2.2.2.2.2.2.2.2.2.2.2.2.2.2.2.1, cell_later hb hH5.2.2.2.2.2.2.2.2.2.2.2.2.2.2.2.2.1, cell_later hb hH5.2.2.2.2.2.2.2.2.2.2.2.2.2.2.2.2.2.1, cell_later hb hH5.2.2.2.2.2.2.2.2.2.2.2.2.2.2.2.2.2.2.1, cell_later hb hH5.2.2.2.2.2.2.2.2.2.2.2.2.2.2.2.2.2.2.2.1, cell_later hb hH5.2.2.2.2.2.2.2.2.2.2.2.2.2.2.2.2.2.2.2.2.1, cell_later hb hH5.2.2.2.2.2.2.2.2.2.2.2.2.2.2.2.2.2.2.2.2.2.1, cell_later hb hH5.2.2.2.2.2.2.2.2.2.2.2.2.2.2.2.2.2.2.2.2.2.2.1, cell_later hb hH5.2.2.2.2.2.2.2.2.2.2.2.2.2.2.2.2.2.2.2.2.2.2.2⟩
      clear hK K
      try simp only [Act.put, List.setIfInBounds_toArray, List.set_cons_zero, List.set_cons_succ]
      clear hb
      refine wpAnyH_take (i := 14) (oi := { dst := some 43, op := Go.Op.pick (Go.Operand.tmp 37) (Go.Operand.tmp 42) (Go.Operand.const (Go.Value.bool false)), type := 4, pos := "law.go:39", after := #[{ on := 8, ground := Go.Ground.data }, { on := 13, ground := Go.Ground.data }], guard := none }) (v := ?vv9) rfl (by kernel_rfl) (by kernel_rfl) (by kernel_rfl) (fun _ _ _ h => h) (Or.inl ⟨by rfl, ?hy9⟩) (by assumption) ?rr9
      case hy9 => intro w hSw; (try dsimp only at hSw); go_simp; all_goals with_reducible rfl
      try simp only [Act.put, List.setIfInBounds_toArray, List.set_cons_zero, List.set_cons_succ]
      refine wpAnyH_take (i := 15) (oi := { dst := some 44, op := Go.Op.move (Go.Operand.tmp 43), type := 4, pos := "law.go:39", after := #[{ on := 14, ground := Go.Ground.data }, { on := 13, ground := Go.Ground.chain }], guard := none }) (v := ?vv10) rfl (by kernel_rfl) (by kernel_rfl) (by kernel_rfl) (fun _ _ _ h => h) (Or.inl ⟨by rfl, ?hy10⟩) (by assumption) ?rr10
      case hy10 => intro w hSw; (try dsimp only at hSw); go_simp; all_goals with_reducible rfl
      try simp only [Act.put, List.setIfInBounds_toArray, List.set_cons_zero, List.set_cons_succ]
      refine wpAnyH_take (i := 16) (oi := { dst := some 45, op := Go.Op.load 27 (Go.Operand.tmp 3), type := 27, pos := "law.go:39", after := #[{ on := 15, ground := Go.Ground.guard }], guard := some (15, true) }) (v := ?vv11) rfl (by kernel_rfl) (by kernel_rfl) (by kernel_rfl) (fun _ _ _ h => h) (Or.inl ⟨by rfl, ?hy11⟩) (by assumption) ?rr11
      case hy11 => intro w hSw; (try dsimp only at hSw); go_simp; all_goals with_reducible rfl
      try simp only [Act.put, List.setIfInBounds_toArray, List.set_cons_zero, List.set_cons_succ]
      refine wpAnyH_take (i := 17) (oi := { dst := some 46, op := Go.Op.load 27 (Go.Operand.tmp 5), type := 27, pos := "law.go:39", after := #[{ on := 15, ground := Go.Ground.guard }], guard := some (15, true) }) (v := ?vv12) rfl (by kernel_rfl) (by kernel_rfl) (by kernel_rfl) (fun _ _ _ h => h) (Or.inl ⟨by rfl, ?hy12⟩) (by assumption) ?rr12
      case hy12 => intro w hSw; (try dsimp only at hSw); go_simp; all_goals with_reducible rfl
      try simp only [Act.put, List.setIfInBounds_toArray, List.set_cons_zero, List.set_cons_succ]
      refine wpAnyH_ready (rs := [18]) (by kernel_rfl) (by simp) ?_
      refine AllReadyH.cons (i := 18) (o := { dst := some 47, op := Go.Op.call { callee := Go.Callee.value (Go.Operand.func 15), args := #[Go.Operand.tmp 45, Go.Operand.tmp 46], argTypes := #[27, 27] }, type := 4, pos := "law.go:39", after := #[{ on := 16, ground := Go.Ground.data }, { on := 17, ground := Go.Ground.data }, { on := 15, ground := Go.Ground.chain }, { on := 15, ground := Go.Ground.guard }], guard := some (15, true) }) rfl (fun K hK => ?_) AllReadyH.nil
      go_simp
      go_at_call 15
      refine (rone_any15 q A2 A3 c2 c3 _ (OA5.out.below HV6.out) (OB5.out.below HV6.out) HFQ.out).mono ?_
      rintro e v7 ⟨rfl, hb⟩
      have HV7 := hid (then_b HV6.out hb)
      refine hK.out _ _ ?_ (fun hH7 => ?_)
      · exact ⟨cell_later hb hH6.1, cell_later hb hH6.2.1, cell_later hb hH6.2.2.1, cell_later hb hH6.2.2.2.1, cell_later hb hH6.2.2.2.2.1, cell_later hb hH6.2.2.2.2.2.1, cell_later hb hH6.2.2.2.2.2.2.1, cell_later hb hH6.2.2.2.2.2.2.2.1, cell_later hb hH6.2.2.2.2.2.2.2.2.1, cell_later hb hH6.2.2.2.2.2.2.2.2.2.1, cell_later hb hH6.2.2.2.2.2.2.2.2.2.2.1, cell_later hb hH6.2.2.2.2.2.2.2.2.2.2.2.1, cell_later hb hH6.2.2.2.2.2.2.2.2.2.2.2.2.1, cell_later hb hH6.2.2.2.2.2.2.2.2.2.2.2.2.2.1, cell_later hb hH6.2.2.2.2.2.2.2.2.2.2.2.2.2.2.1, cell_later hb hH6.2.2.2.2.2.2.2.2.2.2.2.2.2.2.2.1, cell_later hb hH6.2.2.2.2.2.2.2.2.2.2.2.2.2.2.2.2.1, cell_later hb hH6.2.2.2.2.2.2.2.2.2.2.2.2.2.2.2.2.2.1, cell_later hb hH6.2.2.2.2.2.2.2.2.2.2.2.2.2.2.2.2.2.2.1, cell_later hb hH6.2.2.2.2.2.2.2.2.2.2.2.2.2.2.2.2.2.2.2.1, cell_later hb hH6.2.2.2.2.2.2.2.2.2.2.2.2.2.2.2.2.2.2.2.2.1, cell_later hb hH6.2.2.2.2.2.2.2.2.2.2.2.2.2.2.2.2.2.2.2.2.2.1, cell_later hb hH6.2.2.2.2.2.2.2.2.2.2.2.2.2.2.2.2.2.2.2.2.2.2.1, cell_later hb hH6.2.2.2.2.2.2.2.2.2.2.2.2.2.2.2.2.2.2.2.2.2.2.2⟩
      clear hK K
      try simp only [Act.put, List.setIfInBounds_toArray, List.set_cons_zero, List.set_cons_succ]
      clear hb
      refine wpAnyH_take (i := 19) (oi := { dst := some 48, op := Go.Op.pick (Go.Operand.tmp 44) (Go.Operand.tmp 47) (Go.Operand.const (Go.Value.bool false)), type := 4, pos := "law.go:39", after := #[{ on := 15, ground := Go.Ground.data }, { on := 18, ground := Go.Ground.data }], guard := none }) (v := ?vv13) rfl (by kernel_rfl) (by kernel_rfl) (by kernel_rfl) (fun _ _ _ h => h) (Or.inl ⟨by rfl, ?hy13⟩) (by assumption) ?rr13
      case hy13 => intro w hSw; (try dsimp only at hSw); go_simp; all_goals with_reducible rfl
      try simp only [Act.put, List.setIfInBounds_toArray, List.set_cons_zero, List.set_cons_succ]
      refine wpAnyH_take (i := 20) (oi := { dst := some 49, op := Go.Op.move (Go.Operand.tmp 48), type := 4, pos := "law.go:39", after := #[{ on := 19, ground := Go.Ground.data }, { on := 18, ground := Go.Ground.chain }], guard := none }) (v := ?vv14) rfl (by kernel_rfl) (by kernel_rfl) (by kernel_rfl) (fun _ _ _ h => h) (Or.inl ⟨by rfl, ?hy14⟩) (by assumption) ?rr14
      case hy14 => intro w hSw; (try dsimp only at hSw); go_simp; all_goals with_reducible rfl
      try simp only [Act.put, List.setIfInBounds_toArray, List.set_cons_zero, List.set_cons_succ]
      refine wpAnyH_take (i := 21) (oi := { dst := some 50, op := Go.Op.move (Go.Operand.tmp 4), type := 25, pos := "law.go:39", after := #[{ on := 20, ground := Go.Ground.guard }], guard := some (20, true) }) (v := ?vv15) rfl (by kernel_rfl) (by kernel_rfl) (by kernel_rfl) (fun _ _ _ h => h) (Or.inl ⟨by rfl, ?hy15⟩) (by assumption) ?rr15
      case hy15 => intro w hSw; (try dsimp only at hSw); go_simp; all_goals with_reducible rfl
      try simp only [Act.put, List.setIfInBounds_toArray, List.set_cons_zero, List.set_cons_succ]
      refine wpAnyH_take (i := 22) (oi := { dst := some 51, op := Go.Op.move (Go.Operand.tmp 6), type := 25, pos := "law.go:39", after := #[{ on := 20, ground := Go.Ground.guard }], guard := some (20, true) }) (v := ?vv16) rfl (by kernel_rfl) (by kernel_rfl) (by kernel_rfl) (fun _ _ _ h => h) (Or.inl ⟨by rfl, ?hy16⟩) (by assumption) ?rr16
      case hy16 => intro w hSw; (try dsimp only at hSw); go_simp; all_goals with_reducible rfl
      try simp only [Act.put, List.setIfInBounds_toArray, List.set_cons_zero, List.set_cons_succ]
      refine wpAnyH_take (i := 23) (oi := { dst := some 52, op := Go.Op.binOp Go.BinOp.eql 25 (Go.Operand.tmp 50) (Go.Operand.tmp 51) 25, type := 4, pos := "law.go:39", after := #[{ on := 21, ground := Go.Ground.data }, { on := 22, ground := Go.Ground.data }, { on := 20, ground := Go.Ground.guard }], guard := some (20, true) }) (v := ?vv17) rfl (by kernel_rfl) (by kernel_rfl) (by kernel_rfl) (fun _ _ _ h => h) (Or.inl ⟨by rfl, ?hy17⟩) (by assumption) ?rr17
      case hy17 => intro w hSw; (try dsimp only at hSw); go_simp; all_goals with_reducible rfl
      try simp only [Act.put, List.setIfInBounds_toArray, List.set_cons_zero, List.set_cons_succ]
      refine wpAnyH_take (i := 24) (oi := { dst := some 53, op := Go.Op.pick (Go.Operand.tmp 49) (Go.Operand.tmp 52) (Go.Operand.const (Go.Value.bool false)), type := 4, pos := "law.go:39", after := #[{ on := 20, ground := Go.Ground.data }, { on := 23, ground := Go.Ground.data }], guard := none }) (v := ?vv18) rfl (by kernel_rfl) (by kernel_rfl) (by kernel_rfl) (fun _ _ _ h => h) (Or.inl ⟨by rfl, ?hy18⟩) (by assumption) ?rr18
      case hy18 => intro w hSw; (try dsimp only at hSw); go_simp; all_goals with_reducible rfl
      try simp only [Act.put, List.setIfInBounds_toArray, List.set_cons_zero, List.set_cons_succ]
      refine wpAnyH_take (i := 25) (oi := { dst := some 2, op := Go.Op.assign (Go.Operand.tmp 53), type := 4, pos := "law.go:39", after := #[{ on := 24, ground := Go.Ground.data }, { on := 20, ground := Go.Ground.chain }, { on := 0, ground := Go.Ground.phase }, { on := 1, ground := Go.Ground.phase }, { on := 2, ground := Go.Ground.phase }, { on := 3, ground := Go.Ground.phase }, { on := 4, ground := Go.Ground.phase }, { on := 5, ground := Go.Ground.phase }, { on := 6, ground := Go.Ground.phase }, { on := 7, ground := Go.Ground.phase }, { on := 8, ground := Go.Ground.phase }, { on := 9, ground := Go.Ground.phase }, { on := 10, ground := Go.Ground.phase }, { on := 11, ground := Go.Ground.phase }, { on := 12, ground := Go.Ground.phase }, { on := 13, ground := Go.Ground.phase }, { on := 14, ground := Go.Ground.phase }, { on := 15, ground := Go.Ground.phase }, { on := 16, ground := Go.Ground.phase }, { on := 17, ground := Go.Ground.phase }, { on := 18, ground := Go.Ground.phase }, { on := 19, ground := Go.Ground.phase }, { on := 20, ground := Go.Ground.phase }, { on := 21, ground := Go.Ground.phase }, { on := 22, ground := Go.Ground.phase }, { on := 23, ground := Go.Ground.phase }, { on := 24, ground := Go.Ground.phase }], guard := none }) (v := ?vv19) rfl (by kernel_rfl) (by kernel_rfl) (by kernel_rfl) (fun _ _ _ h => h) (Or.inl ⟨by rfl, ?hy19⟩) (by assumption) ?rr19
      case hy19 => intro w hSw; (try dsimp only at hSw); go_simp; all_goals with_reducible rfl
      try simp only [Act.put, List.setIfInBounds_toArray, List.set_cons_zero, List.set_cons_succ]
      refine wpAnyH_done (by kernel_rfl) ?_ _
      go_wp2_with fail
      go_ret
      exact ⟨by simp, then_b HB5.out HV7.out⟩
end Go.Proofs.YtnilempeldlieaaGreat
