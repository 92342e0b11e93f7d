/- The document on states: are two the same but for numbers? -/
import Derived.Test.YtnilempeldlieaaGreatM18
import Derived.Test.YtnilempeldlieaaGreatM14
import Derived.Test.YtnilempeldlieaaGreatWPQ
namespace Go.Proofs.YtnilempeldlieaaGreat
open Go.RowKit
set_option maxRecDepth 100000
set_option maxHeartbeats 3000000 in
theorem rsame_any15 (s : St) (A : Option Addr) (c : Nat) (t : St) (B : Option Addr) (d : Nat) (w : World) (hsX : ObsR w A s.hp.objs) (fitX : s.hp.Fit) (hsY : ObsR w B t.hp.objs) (fitY : t.hp.Fit) :
    Calls Tryz.prog 16 #[.agg #[.slice A s.hp.objs.length c, .int .i64 s.hp.cap, .int .i64 s.hp.last, .int .i64 s.proc, .int .i64 s.ready, .int .i64 s.halt, .int .i64 s.steps, .int .i64 s.used], .agg #[.slice B t.hp.objs.length d, .int .i64 t.hp.cap, .int .i64 t.hp.last, .int .i64 t.proc, .int .i64 t.ready, .int .i64 t.halt, .int .i64 t.steps, .int .i64 t.used]] w fun e w' => e = .returned (.bool (ssB s t)) ∧ Below w.heap.size w w' := by
  obtain ⟨w0, hw0⟩ : ∃ w0, w0 = ((w.alloc (.cells #[.slice A s.hp.objs.length c, .int .i64 s.hp.cap, .int .i64 s.hp.last, .int .i64 s.proc, .int .i64 s.ready, .int .i64 s.halt, .int .i64 s.steps, .int .i64 s.used] 27)).alloc (.cells #[.slice B t.hp.objs.length d, .int .i64 t.hp.cap, .int .i64 t.hp.last, .int .i64 t.proc, .int .i64 t.ready, .int .i64 t.halt, .int .i64 t.steps, .int .i64 t.used] 27)) := ⟨_, rfl⟩
  have HB0 : Hid (Below w.heap.size w w0) := by show Below _ _ _; rw [hw0]; exact below_alloc2 w _ _
  have X0 : Hid (Lies w0 (w.heap.size) 27 #[.slice A s.hp.objs.length c, .int .i64 s.hp.cap, .int .i64 s.hp.last, .int .i64 s.proc, .int .i64 s.ready, .int .i64 s.halt, .int .i64 s.steps, .int .i64 s.used]) := by
    show Lies _ _ _ _
    rw [hw0]
    have := (Lies.new w 27 #[.slice A s.hp.objs.length c, .int .i64 s.hp.cap, .int .i64 s.hp.last, .int .i64 s.proc, .int .i64 s.ready, .int .i64 s.halt, .int .i64 s.steps, .int .i64 s.used]).alloc (.cells #[.slice B t.hp.objs.length d, .int .i64 t.hp.cap, .int .i64 t.hp.last, .int .i64 t.proc, .int .i64 t.ready, .int .i64 t.halt, .int .i64 t.steps, .int .i64 t.used] 27)
    simpa [Hid] using this
  have OX0 := hid (hsX.below HB0.out)
  have HFX := hid fitX
  have hflX := fitX.1
  have Y0 : Hid (Lies w0 (w.heap.size + 1) 27 #[.slice B t.hp.objs.length d, .int .i64 t.hp.cap, .int .i64 t.hp.last, .int .i64 t.proc, .int .i64 t.ready, .int .i64 t.halt, .int .i64 t.steps, .int .i64 t.used]) := by
    show Lies _ _ _ _
    rw [hw0]
    have := Lies.new (w.alloc (.cells #[.slice A s.hp.objs.length c, .int .i64 s.hp.cap, .int .i64 s.hp.last, .int .i64 s.proc, .int .i64 s.ready, .int .i64 s.halt, .int .i64 s.steps, .int .i64 s.used] 27)) 27 #[.slice B t.hp.objs.length d, .int .i64 t.hp.cap, .int .i64 t.hp.last, .int .i64 t.proc, .int .i64 t.ready, .int .i64 t.halt, .int .i64 t.steps, .int .i64 t.used]
    simpa [Hid] using this
  have OY0 := hid (hsY.below HB0.out)
  have HFY := hid fitY
  have hflY := fitY.1
  obtain ⟨cI, hcI⟩ : ∃ x, x = ckI s := ⟨_, rfl⟩
  have HCI := hid hcI
  clear hcI
  obtain ⟨dI, hdI⟩ : ∃ x, x = ckI t := ⟨_, rfl⟩
  have HDI := hid hdI
  clear hdI
  clear hsX fitX hsY fitY
  go_enter Tryz.func16, Tryz.ntmps16
  go_upto_region 1 with fail
  rw [← hw0]
  clear hw0
  have x0 := X0.out.cell 0
  have x1 := X0.out.cell 1
  have x2 := X0.out.cell 2
  have x3 := X0.out.cell 3
  have x4 := X0.out.cell 4
  have x5 := X0.out.cell 5
  have x6 := X0.out.cell 6
  have x7 := X0.out.cell 7
  simp only [List.getElem?_toArray, List.getElem?_cons_zero, List.getElem?_cons_succ] at x0 x1 x2 x3 x4 x5 x6 x7
  have y0 := Y0.out.cell 0
  have y1 := Y0.out.cell 1
  have y2 := Y0.out.cell 2
  have y3 := Y0.out.cell 3
  have y4 := Y0.out.cell 4
  have y5 := Y0.out.cell 5
  have y6 := Y0.out.cell 6
  have y7 := Y0.out.cell 7
  simp only [List.getElem?_toArray, List.getElem?_cons_zero, List.getElem?_cons_succ] at y0 y1 y2 y3 y4 y5 y6 y7
  go_wp2_with fail
  refine (rck_any15 s A c _ OX0.out HFX.out).mono ?_
  rintro e w1 ⟨rfl, hb⟩
  clear x0 x1 x2 x3 x4 x5 x6 x7 y0 y1 y2 y3 y4 y5 y6 y7
  rw [← HCI.out]
  have HB1 := hid (then_w HB0.out hb)
  have X1 := hid (X0.out.later hb)
  have Y1 := hid (Y0.out.later hb)
  have OX1 := hid (OX0.out.below hb)
  have OY1 := hid (OY0.out.below hb)
  clear hb
  clear HB0 X0 Y0 OX0 OY0
  cases hx : ckB s
  · obtain rfl : cI = 150 := HCI.out.trans (ckI_no hx)
    have e : ssB s t = false := ssB_no fun h => by rw [hx] at h; exact absurd h.1 (by decide)
    have E := hid e
    clear e
    have x0 := X1.out.cell 0
    have x1 := X1.out.cell 1
    have x2 := X1.out.cell 2
    have x3 := X1.out.cell 3
    have x4 := X1.out.cell 4
    have x5 := X1.out.cell 5
    have x6 := X1.out.cell 6
    have x7 := X1.out.cell 7
    simp only [List.getElem?_toArray, List.getElem?_cons_zero, List.getElem?_cons_succ] at x0 x1 x2 x3 x4 x5 x6 x7
    have y0 := Y1.out.cell 0
    have y1 := Y1.out.cell 1
    have y2 := Y1.out.cell 2
    have y3 := Y1.out.cell 3
    have y4 := Y1.out.cell 4
    have y5 := Y1.out.cell 5
    have y6 := Y1.out.cell 6
    have y7 := Y1.out.cell 7
    simp only [List.getElem?_toArray, List.getElem?_cons_zero, List.getElem?_cons_succ] at y0 y1 y2 y3 y4 y5 y6 y7
    go_wp2_with fail
    clear x0 x1 x2 x3 x4 x5 x6 x7 y0 y1 y2 y3 y4 y5 y6 y7
    go_ret
    exact ⟨by rw [E.out]; rfl, HB1.out⟩
  · have HX1 := hid hx
    obtain rfl : cI = 0 := HCI.out.trans (ckI_yes hx)
    clear hx
    have x0 := X1.out.cell 0
    have x1 := X1.out.cell 1
    have x2 := X1.out.cell 2
    have x3 := X1.out.cell 3
    have x4 := X1.out.cell 4
    have x5 := X1.out.cell 5
    have x6 := X1.out.cell 6
    have x7 := X1.out.cell 7
    simp only [List.getElem?_toArray, List.getElem?_cons_zero, List.getElem?_cons_succ] at x0 x1 x2 x3 x4 x5 x6 x7
    have y0 := Y1.out.cell 0
    have y1 := Y1.out.cell 1
    have y2 := Y1.out.cell 2
    have y3 := Y1.out.cell 3
    have y4 := Y1.out.cell 4
    have y5 := Y1.out.cell 5
    have y6 := Y1.out.cell 6
    have y7 := Y1.out.cell 7
    simp only [List.getElem?_toArray, List.getElem?_cons_zero, List.getElem?_cons_succ] at y0 y1 y2 y3 y4 y5 y6 y7
    go_wp2_with fail
    refine (rck_any15 t B d _ OY1.out HFY.out).mono ?_
    rintro e w2 ⟨rfl, hb⟩
    clear x0 x1 x2 x3 x4 x5 x6 x7 y0 y1 y2 y3 y4 y5 y6 y7
    rw [← HDI.out]
    have HB2 := hid (then_w HB1.out hb)
    have X2 := hid (X1.out.later hb)
    have Y2 := hid (Y1.out.later hb)
    have OX2 := hid (OX1.out.below hb)
    have OY2 := hid (OY1.out.below hb)
    clear hb
    clear HB1 X1 Y1 OX1 OY1
    cases hx : ckB t
    · obtain rfl : dI = 150 := HDI.out.trans (ckI_no hx)
      have e : ssB s t = false := ssB_no fun h => by rw [hx] at h; exact absurd h.2.1 (by decide)
      have E := hid e
      clear e
      have x0 := X2.out.cell 0
      have x1 := X2.out.cell 1
      have x2 := X2.out.cell 2
      have x3 := X2.out.cell 3
      have x4 := X2.out.cell 4
      have x5 := X2.out.cell 5
      have x6 := X2.out.cell 6
      have x7 := X2.out.cell 7
      simp only [List.getElem?_toArray, List.getElem?_cons_zero, List.getElem?_cons_succ] at x0 x1 x2 x3 x4 x5 x6 x7
      have y0 := Y2.out.cell 0
      have y1 := Y2.out.cell 1
      have y2 := Y2.out.cell 2
      have y3 := Y2.out.cell 3
      have y4 := Y2.out.cell 4
      have y5 := Y2.out.cell 5
      have y6 := Y2.out.cell 6
      have y7 := Y2.out.cell 7
      simp only [List.getElem?_toArray, List.getElem?_cons_zero, List.getElem?_cons_succ] at y0 y1 y2 y3 y4 y5 y6 y7
      go_wp2_with fail
      clear x0 x1 x2 x3 x4 x5 x6 x7 y0 y1 y2 y3 y4 y5 y6 y7
      go_ret
      exact ⟨by rw [E.out]; rfl, HB2.out⟩
    · have HX2 := hid hx
      obtain rfl : dI = 0 := HDI.out.trans (ckI_yes hx)
      have EX := hid (rtL_yes HX1.out)
      have EY := hid (rtL_yes HX2.out)
      clear hx
      by_cases hhalt : s.halt = t.halt
      · have hbhalt : (s.halt != t.halt) = false := by simp [hhalt]
        have HEhalt := hid hhalt
        clear hhalt
        by_cases hsteps : s.steps = t.steps
        · have hbsteps : (s.steps != t.steps) = false := by simp [hsteps]
          have HEsteps := hid hsteps
          clear hsteps
          by_cases hused : s.used = t.used
          · have hbused : (s.used != t.used) = false := by simp [hused]
            have HEused := hid hused
            clear hused
            have E := hid (ss_sa HX1.out HX2.out HEhalt.out HEsteps.out HEused.out)
            have x0 := X2.out.cell 0
            have x1 := X2.out.cell 1
            have x2 := X2.out.cell 2
            have x3 := X2.out.cell 3
            have x4 := X2.out.cell 4
            have x5 := X2.out.cell 5
            have x6 := X2.out.cell 6
            have x7 := X2.out.cell 7
            simp only [List.getElem?_toArray, List.getElem?_cons_zero, List.getElem?_cons_succ] at x0 x1 x2 x3 x4 x5 x6 x7
            have y0 := Y2.out.cell 0
            have y1 := Y2.out.cell 1
            have y2 := Y2.out.cell 2
            have y3 := Y2.out.cell 3
            have y4 := Y2.out.cell 4
            have y5 := Y2.out.cell 5
            have y6 := Y2.out.cell 6
            have y7 := Y2.out.cell 7
            simp only [List.getElem?_toArray, List.getElem?_cons_zero, List.getElem?_cons_succ] at y0 y1 y2 y3 y4 y5 y6 y7
            go_wp2_with fail
            refine wp_region_held_drew (S := (fun w' => w'.cell? ⟨(w.heap.size), 0, none⟩ = some (.slice A s.hp.objs.length c) ∧ w'.cell? ⟨(w.heap.size), 1, none⟩ = some (.int .i64 s.hp.cap) ∧ w'.cell? ⟨(w.heap.size), 2, none⟩ = some (.int .i64 s.hp.last) ∧ w'.cell? ⟨(w.heap.size), 3, none⟩ = some (.int .i64 s.proc) ∧ w'.cell? ⟨(w.heap.size), 4, none⟩ = some (.int .i64 s.ready) ∧ w'.cell? ⟨(w.heap.size), 5, none⟩ = some (.int .i64 s.halt) ∧ w'.cell? ⟨(w.heap.size), 6, none⟩ = some (.int .i64 s.steps) ∧ w'.cell? ⟨(w.heap.size), 7, none⟩ = some (.int .i64 s.used) ∧ w'.cell? ⟨(w.heap.size + 1), 0, none⟩ = some (.slice B t.hp.objs.length d) ∧ w'.cell? ⟨(w.heap.size + 1), 1, none⟩ = some (.int .i64 t.hp.cap) ∧ w'.cell? ⟨(w.heap.size + 1), 2, none⟩ = some (.int .i64 t.hp.last) ∧ w'.cell? ⟨(w.heap.size + 1), 3, none⟩ = some (.int .i64 t.proc) ∧ w'.cell? ⟨(w.heap.size + 1), 4, none⟩ = some (.int .i64 t.ready) ∧ w'.cell? ⟨(w.heap.size + 1), 5, none⟩ = some (.int .i64 t.halt) ∧ w'.cell? ⟨(w.heap.size + 1), 6, none⟩ = some (.int .i64 t.steps) ∧ w'.cell? ⟨(w.heap.size + 1), 7, none⟩ = some (.int .i64 t.used))) (by kernel_rfl) ?_ (fun hH0 => ?_)
            · exact ⟨x0, x1, x2, x3, x4, x5, x6, x7, y0, y1, y2, y3, y4, y5, y6, y7⟩
            refine wpAnyH_take (i := 0) (oi := { dst := some 34, op := Go.Op.fieldAddr 27 (Go.Operand.tmp 2) 0, type := 0, pos := "ref.go:44", after := #[], guard := none }) (v := ?vv1) rfl (by kernel_rfl) (by kernel_rfl) (by kernel_rfl) (fun _ _ _ h => h) (Or.inl ⟨by rfl, ?hy1⟩) (by assumption) ?rr1
            case hy1 => intro w hSw; (try dsimp only at hSw); go_simp; all_goals with_reducible rfl
            try simp only [Act.put, List.setIfInBounds_toArray, List.set_cons_zero, List.set_cons_succ]
            refine wpAnyH_take (i := 1) (oi := { dst := some 35, op := Go.Op.load 24 (Go.Operand.tmp 34), type := 24, pos := "ref.go:44", after := #[{ on := 0, ground := Go.Ground.data }], guard := none }) (v := ?vv2) rfl (by kernel_rfl) (by kernel_rfl) (by kernel_rfl) (fun _ _ _ h => h) (Or.inl ⟨by rfl, ?hy2⟩) (by assumption) ?rr2
            case hy2 => intro w hSw; (try dsimp only at hSw); go_simp; all_goals with_reducible rfl
            try simp only [Act.put, List.setIfInBounds_toArray, List.set_cons_zero, List.set_cons_succ]
            refine wpAnyH_take (i := 2) (oi := { dst := some 36, op := Go.Op.load 27 (Go.Operand.tmp 2), type := 27, pos := "ref.go:44", after := #[], guard := none }) (v := ?vv3) rfl (by kernel_rfl) (by kernel_rfl) (by kernel_rfl) (fun _ _ _ h => h) (Or.inl ⟨by rfl, ?hy3⟩) (by assumption) ?rr3
            case hy3 => intro w hSw; (try dsimp only at hSw); go_simp; all_goals with_reducible rfl
            try simp only [Act.put, List.setIfInBounds_toArray, List.set_cons_zero, List.set_cons_succ]
            refine wpAnyH_take (i := 4) (oi := { dst := some 38, op := Go.Op.fieldAddr 27 (Go.Operand.tmp 3) 0, type := 0, pos := "ref.go:44", after := #[], guard := none }) (v := ?vv4) rfl (by kernel_rfl) (by kernel_rfl) (by kernel_rfl) (fun _ _ _ h => h) (Or.inl ⟨by rfl, ?hy4⟩) (by assumption) ?rr4
            case hy4 => intro w hSw; (try dsimp only at hSw); go_simp; all_goals with_reducible rfl
            try simp only [Act.put, List.setIfInBounds_toArray, List.set_cons_zero, List.set_cons_succ]
            refine wpAnyH_take (i := 5) (oi := { dst := some 39, op := Go.Op.load 24 (Go.Operand.tmp 38), type := 24, pos := "ref.go:44", after := #[{ on := 4, ground := Go.Ground.data }], guard := none }) (v := ?vv5) rfl (by kernel_rfl) (by kernel_rfl) (by kernel_rfl) (fun _ _ _ h => h) (Or.inl ⟨by rfl, ?hy5⟩) (by assumption) ?rr5
            case hy5 => intro w hSw; (try dsimp only at hSw); go_simp; all_goals with_reducible rfl
            try simp only [Act.put, List.setIfInBounds_toArray, List.set_cons_zero, List.set_cons_succ]
            refine wpAnyH_take (i := 6) (oi := { dst := some 40, op := Go.Op.load 27 (Go.Operand.tmp 3), type := 27, pos := "ref.go:44", after := #[], guard := none }) (v := ?vv6) rfl (by kernel_rfl) (by kernel_rfl) (by kernel_rfl) (fun _ _ _ h => h) (Or.inl ⟨by rfl, ?hy6⟩) (by assumption) ?rr6
            case hy6 => intro w hSw; (try dsimp only at hSw); go_simp; all_goals with_reducible rfl
            try simp only [Act.put, List.setIfInBounds_toArray, List.set_cons_zero, List.set_cons_succ]
            refine wpAnyH_ready (rs := [3]) (by kernel_rfl) (by simp) ?_
            refine AllReadyH.cons (i := 3) (o := { dst := some 37, op := Go.Op.call { callee := Go.Callee.value (Go.Operand.func 14), args := #[Go.Operand.tmp 36], argTypes := #[27] }, type := 34, pos := "ref.go:44", after := #[{ on := 2, ground := Go.Ground.data }], guard := none }) rfl (fun K hK => ?_) AllReadyH.nil
            go_simp
            go_at_call 14
            refine (rroots_any15 s A c _ (OX2.out.below (Below.refl _ w2).drew) HFX.out).mono ?_
            rintro e v1 ⟨A1, c1, rfl, ho, hb⟩
            rw [EX.out] at ho ⊢
            have HV1 := hid (then_b (Below.refl _ w2).drew hb)
            have HI1 := hid (ho)
            clear ho
            refine hK.out _ _ ?_ (fun hH1 => ?_)
            · exact ⟨cell_later hb hH0.1, cell_later hb hH0.2.1, cell_later hb hH0.2.2.1, cell_later hb hH0.2.2.2.1, cell_later hb hH0.2.2.2.2.1, cell_later hb hH0.2.2.2.2.2.1, cell_later hb hH0.2.2.2.2.2.2.1, cell_later hb hH0.2.2.2.2.2.2.2.1, cell_later hb hH0.2.2.2.2.2.2.2.2.1, cell_later hb hH0.2.2.2.2.2.2.2.2.2.1, cell_later hb hH0.2.2.2.2.2.2.2.2.2.2.1, cell_later hb hH0.2.2.2.2.2.2.2.2.2.2.2.1, cell_later hb hH0.2.2.2.2.2.2.2.2.2.2.2.2.1, cell_later hb hH0.2.2.2.2.2.2.2.2.2.2.2.2.2.1, cell_later hb hH0.2.2.2.2.2.2.2.2.2.2.2.2.2.2.1, cell_later hb hH0.2.2.2.2.2.2.2.2.2.2.2.2.2.2.2⟩
            clear hK K
            try simp only [Act.put, List.setIfInBounds_toArray, List.set_cons_zero, List.set_cons_succ]
            clear hb
            refine wpAnyH_ready (rs := [7]) (by kernel_rfl) (by simp) ?_
            refine AllReadyH.cons (i := 7) (o := { dst := some 41, op := Go.Op.call { callee := Go.Callee.value (Go.Operand.func 14), args := #[Go.Operand.tmp 40], argTypes := #[27] }, type := 34, pos := "ref.go:44", after := #[{ on := 6, ground := Go.Ground.data }, { on := 3, ground := Go.Ground.chain }], guard := none }) rfl (fun K hK => ?_) AllReadyH.nil
            go_simp
            go_at_call 14
            refine (rroots_any15 t B d _ (OY2.out.below HV1.out) HFY.out).mono ?_
            rintro e v2 ⟨A2, c2, rfl, ho, hb⟩
            rw [EY.out] at ho ⊢
            have HV2 := hid (then_b HV1.out hb)
            have HI2 := hid (ho)
            replace HI1 := hid (HI1.out.below hb)
            clear ho
            refine hK.out _ _ ?_ (fun hH2 => ?_)
            · exact ⟨cell_later hb hH1.1, cell_later hb hH1.2.1, cell_later hb hH1.2.2.1, cell_later hb hH1.2.2.2.1, cell_later hb hH1.2.2.2.2.1, cell_later hb hH1.2.2.2.2.2.1, cell_later hb hH1.2.2.2.2.2.2.1, cell_later hb hH1.2.2.2.2.2.2.2.1, cell_later hb hH1.2.2.2.2.2.2.2.2.1, cell_later hb hH1.2.2.2.2.2.2.2.2.2.1, cell_later hb hH1.2.2.2.2.2.2.2.2.2.2.1, cell_later hb hH1.2.2.2.2.2.2.2.2.2.2.2.1, cell_later hb hH1.2.2.2.2.2.2.2.2.2.2.2.2.1, cell_later hb hH1.2.2.2.2.2.2.2.2.2.2.2.2.2.1, cell_later hb hH1.2.2.2.2.2.2.2.2.2.2.2.2.2.2.1, cell_later hb hH1.2.2.2.2.2.2.2.2.2.2.2.2.2.2.2⟩
            clear hK K
            try simp only [Act.put, List.setIfInBounds_toArray, List.set_cons_zero, List.set_cons_succ]
            clear hb
            refine wpAnyH_ready (rs := [8]) (by kernel_rfl) (by simp) ?_
            refine AllReadyH.cons (i := 8) (o := { dst := some 42, op := Go.Op.call { callee := Go.Callee.value (Go.Operand.func 33), args := #[Go.Operand.tmp 35, Go.Operand.tmp 37, Go.Operand.tmp 39, Go.Operand.tmp 41], argTypes := #[24, 34, 24, 34] }, type := 4, pos := "ref.go:44", after := #[{ on := 1, ground := Go.Ground.data }, { on := 3, ground := Go.Ground.data }, { on := 5, ground := Go.Ground.data }, { on := 7, ground := Go.Ground.data }, { on := 7, ground := Go.Ground.chain }], guard := none }) rfl (fun K hK => ?_) AllReadyH.nil
            go_simp
            go_at_call 33
            refine (rsame6_any s.hp t.hp (rt15 s) (rt15 t) A B A1 A2 c d c1 c2 _ (OX2.out.below HV2.out) HFX.out HI1.out (by rw [rt15_len]; decide) (OY2.out.below HV2.out) HFY.out HI2.out (by rw [rt15_len]; decide)).mono ?_
            rintro e v3 ⟨rfl, hb⟩
            have HV3 := hid (then_b HV2.out hb)
            refine hK.out _ _ ?_ (fun hH3 => ?_)
            · exact ⟨cell_later hb hH2.1, cell_later hb hH2.2.1, cell_later hb hH2.2.2.1, cell_later hb hH2.2.2.2.1, cell_later hb hH2.2.2.2.2.1, cell_later hb hH2.2.2.2.2.2.1, cell_later hb hH2.2.2.2.2.2.2.1, cell_later hb hH2.2.2.2.2.2.2.2.1, cell_later hb hH2.2.2.2.2.2.2.2.2.1, cell_later hb hH2.2.2.2.2.2.2.2.2.2.1, cell_later hb hH2.2.2.2.2.2.2.2.2.2.2.1, cell_later hb hH2.2.2.2.2.2.2.2.2.2.2.2.1, cell_later hb hH2.2.2.2.2.2.2.2.2.2.2.2.2.1, cell_later hb hH2.2.2.2.2.2.2.2.2.2.2.2.2.2.1, cell_later hb hH2.2.2.2.2.2.2.2.2.2.2.2.2.2.2.1, cell_later hb hH2.2.2.2.2.2.2.2.2.2.2.2.2.2.2.2⟩
            clear hK K
            try simp only [Act.put, List.setIfInBounds_toArray, List.set_cons_zero, List.set_cons_succ]
            clear hb
            refine wpAnyH_take (i := 9) (oi := { dst := some 4, op := Go.Op.assign (Go.Operand.tmp 42), type := 4, pos := "ref.go:44", after := #[{ on := 8, ground := Go.Ground.data }, { on := 8, ground := Go.Ground.chain }, { on := 0, ground := Go.Ground.phase }, { on := 1, ground := Go.Ground.phase }, { on := 2, ground := Go.Ground.phase }, { on := 3, ground := Go.Ground.phase }, { on := 4, ground := Go.Ground.phase }, { on := 5, ground := Go.Ground.phase }, { on := 6, ground := Go.Ground.phase }, { on := 7, ground := Go.Ground.phase }, { on := 8, ground := Go.Ground.phase }], guard := none }) (v := ?vv7) rfl (by kernel_rfl) (by kernel_rfl) (by kernel_rfl) (fun _ _ _ h => h) (Or.inl ⟨by rfl, ?hy7⟩) (by assumption) ?rr7
            case hy7 => intro w hSw; (try dsimp only at hSw); go_simp; all_goals with_reducible rfl
            try simp only [Act.put, List.setIfInBounds_toArray, List.set_cons_zero, List.set_cons_succ]
            refine wpAnyH_done (by kernel_rfl) ?_ _
            go_wp2_with fail
            go_ret
            exact ⟨by rw [E.out]; rfl, then_b HB2.out HV3.out⟩
          · have hbused : (s.used != t.used) = true := by simpa using hused
            have e : ssB s t = false := ssB_no fun h => hused h.2.2.2.2.1
            have E := hid e
            clear e
            have x0 := X2.out.cell 0
            have x1 := X2.out.cell 1
            have x2 := X2.out.cell 2
            have x3 := X2.out.cell 3
            have x4 := X2.out.cell 4
            have x5 := X2.out.cell 5
            have x6 := X2.out.cell 6
            have x7 := X2.out.cell 7
            simp only [List.getElem?_toArray, List.getElem?_cons_zero, List.getElem?_cons_succ] at x0 x1 x2 x3 x4 x5 x6 x7
            have y0 := Y2.out.cell 0
            have y1 := Y2.out.cell 1
            have y2 := Y2.out.cell 2
            have y3 := Y2.out.cell 3
            have y4 := Y2.out.cell 4
            have y5 := Y2.out.cell 5
            have y6 := Y2.out.cell 6
            have y7 := Y2.out.cell 7
            simp only [List.getElem?_toArray, List.getElem?_cons_zero, List.getElem?_cons_succ] at y0 y1 y2 y3 y4 y5 y6 y7
            go_wp2_with fail
            clear x0 x1 x2 x3 x4 x5 x6 x7 y0 y1 y2 y3 y4 y5 y6 y7
            go_ret
            exact ⟨by rw [E.out]; rfl, HB2.out⟩
        · have hbsteps : (s.steps != t.steps) = true := by simpa using hsteps
          have e : ssB s t = false := ssB_no fun h => hsteps h.2.2.2.1
          have E := hid e
          clear e
          have x0 := X2.out.cell 0
          have x1 := X2.out.cell 1
          have x2 := X2.out.cell 2
          have x3 := X2.out.cell 3
          have x4 := X2.out.cell 4
          have x5 := X2.out.cell 5
          have x6 := X2.out.cell 6
          have x7 := X2.out.cell 7
          simp only [List.getElem?_toArray, List.getElem?_cons_zero, List.getElem?_cons_succ] at x0 x1 x2 x3 x4 x5 x6 x7
          have y0 := Y2.out.cell 0
          have y1 := Y2.out.cell 1
          have y2 := Y2.out.cell 2
          have y3 := Y2.out.cell 3
          have y4 := Y2.out.cell 4
          have y5 := Y2.out.cell 5
          have y6 := Y2.out.cell 6
          have y7 := Y2.out.cell 7
          simp only [List.getElem?_toArray, List.getElem?_cons_zero, List.getElem?_cons_succ] at y0 y1 y2 y3 y4 y5 y6 y7
          go_wp2_with fail
          clear x0 x1 x2 x3 x4 x5 x6 x7 y0 y1 y2 y3 y4 y5 y6 y7
          go_ret
          exact ⟨by rw [E.out]; rfl, HB2.out⟩
      · have hbhalt : (s.halt != t.halt) = true := by simpa using hhalt
        have e : ssB s t = false := ssB_no fun h => hhalt h.2.2.1
        have E := hid e
        clear e
        have x0 := X2.out.cell 0
        have x1 := X2.out.cell 1
        have x2 := X2.out.cell 2
        have x3 := X2.out.cell 3
        have x4 := X2.out.cell 4
        have x5 := X2.out.cell 5
        have x6 := X2.out.cell 6
        have x7 := X2.out.cell 7
        simp only [List.getElem?_toArray, List.getElem?_cons_zero, List.getElem?_cons_succ] at x0 x1 x2 x3 x4 x5 x6 x7
        have y0 := Y2.out.cell 0
        have y1 := Y2.out.cell 1
        have y2 := Y2.out.cell 2
        have y3 := Y2.out.cell 3
        have y4 := Y2.out.cell 4
        have y5 := Y2.out.cell 5
        have y6 := Y2.out.cell 6
        have y7 := Y2.out.cell 7
        simp only [List.getElem?_toArray, List.getElem?_cons_zero, List.getElem?_cons_succ] at y0 y1 y2 y3 y4 y5 y6 y7
        go_wp2_with fail
        clear x0 x1 x2 x3 x4 x5 x6 x7 y0 y1 y2 y3 y4 y5 y6 y7
        go_ret
        exact ⟨by rw [E.out]; rfl, HB2.out⟩
theorem rsameL15 {s t : St} {b : Bool} (hb : ssB s t = b) (A : Option Addr) (c : Nat) (B : Option Addr) (d : Nat) (w : World) (hs : ObsR w A s.hp.objs) (fs : s.hp.Fit) (ht : ObsR w B t.hp.objs) (ft : t.hp.Fit) : Calls Tryz.prog 16 #[.agg #[.slice A s.hp.objs.length c, .int .i64 s.hp.cap, .int .i64 s.hp.last, .int .i64 s.proc, .int .i64 s.ready, .int .i64 s.halt, .int .i64 s.steps, .int .i64 s.used], .agg #[.slice B t.hp.objs.length d, .int .i64 t.hp.cap, .int .i64 t.hp.last, .int .i64 t.proc, .int .i64 t.ready, .int .i64 t.halt, .int .i64 t.steps, .int .i64 t.used]] w fun e w' => e = .returned (.bool b) ∧ Below w.heap.size w w' := by subst hb; exact rsame_any15 s A c t B d w hs fs ht ft
set_option maxHeartbeats 3000000 in
theorem rone_any15 (s : St) (A B : Option Addr) (c d : Nat) (w : World) (hsX : ObsR w A s.hp.objs) (hsY : ObsR w B s.hp.objs) (fitX : s.hp.Fit) :
    Calls Tryz.prog 15 #[.agg #[.slice A s.hp.objs.length c, .int .i64 s.hp.cap, .int .i64 s.hp.last, .int .i64 s.proc, .int .i64 s.ready, .int .i64 s.halt, .int .i64 s.steps, .int .i64 s.used], .agg #[.slice B s.hp.objs.length d, .int .i64 s.hp.cap, .int .i64 s.hp.last, .int .i64 s.proc, .int .i64 s.ready, .int .i64 s.halt, .int .i64 s.steps, .int .i64 s.used]] w fun e w' => e = .returned (.bool (true)) ∧ Below w.heap.size w w' := by
  have fitY := fitX
  obtain ⟨w0, hw0⟩ : ∃ w0, w0 = ((w.alloc (.cells #[.slice A s.hp.objs.length c, .int .i64 s.hp.cap, .int .i64 s.hp.last, .int .i64 s.proc, .int .i64 s.ready, .int .i64 s.halt, .int .i64 s.steps, .int .i64 s.used] 27)).alloc (.cells #[.slice B s.hp.objs.length d, .int .i64 s.hp.cap, .int .i64 s.hp.last, .int .i64 s.proc, .int .i64 s.ready, .int .i64 s.halt, .int .i64 s.steps, .int .i64 s.used] 27)) := ⟨_, rfl⟩
  have HB0 : Hid (Below w.heap.size w w0) := by show Below _ _ _; rw [hw0]; exact below_alloc2 w _ _
  have X0 : Hid (Lies w0 (w.heap.size) 27 #[.slice A s.hp.objs.length c, .int .i64 s.hp.cap, .int .i64 s.hp.last, .int .i64 s.proc, .int .i64 s.ready, .int .i64 s.halt, .int .i64 s.steps, .int .i64 s.used]) := by
    show Lies _ _ _ _
    rw [hw0]
    have := (Lies.new w 27 #[.slice A s.hp.objs.length c, .int .i64 s.hp.cap, .int .i64 s.hp.last, .int .i64 s.proc, .int .i64 s.ready, .int .i64 s.halt, .int .i64 s.steps, .int .i64 s.used]).alloc (.cells #[.slice B s.hp.objs.length d, .int .i64 s.hp.cap, .int .i64 s.hp.last, .int .i64 s.proc, .int .i64 s.ready, .int .i64 s.halt, .int .i64 s.steps, .int .i64 s.used] 27)
    simpa [Hid] using this
  have OX0 := hid (hsX.below HB0.out)
  have HFX := hid fitX
  have hflX := fitX.1
  have Y0 : Hid (Lies w0 (w.heap.size + 1) 27 #[.slice B s.hp.objs.length d, .int .i64 s.hp.cap, .int .i64 s.hp.last, .int .i64 s.proc, .int .i64 s.ready, .int .i64 s.halt, .int .i64 s.steps, .int .i64 s.used]) := by
    show Lies _ _ _ _
    rw [hw0]
    have := Lies.new (w.alloc (.cells #[.slice A s.hp.objs.length c, .int .i64 s.hp.cap, .int .i64 s.hp.last, .int .i64 s.proc, .int .i64 s.ready, .int .i64 s.halt, .int .i64 s.steps, .int .i64 s.used] 27)) 27 #[.slice B s.hp.objs.length d, .int .i64 s.hp.cap, .int .i64 s.hp.last, .int .i64 s.proc, .int .i64 s.ready, .int .i64 s.halt, .int .i64 s.steps, .int .i64 s.used]
    simpa [Hid] using this
  have OY0 := hid (hsY.below HB0.out)
  have HFY := hid fitY
  have hflY := fitY.1
  clear hsX fitX hsY fitY
  go_enter Tryz.func15, Tryz.ntmps15
  go_upto_region 1 with fail
  rw [← hw0]
  clear hw0
  have x0 := X0.out.cell 0
  have x1 := X0.out.cell 1
  have x2 := X0.out.cell 2
  have x3 := X0.out.cell 3
  have x4 := X0.out.cell 4
  have x5 := X0.out.cell 5
  have x6 := X0.out.cell 6
  have x7 := X0.out.cell 7
  simp only [List.getElem?_toArray, List.getElem?_cons_zero, List.getElem?_cons_succ] at x0 x1 x2 x3 x4 x5 x6 x7
  have y0 := Y0.out.cell 0
  have y1 := Y0.out.cell 1
  have y2 := Y0.out.cell 2
  have y3 := Y0.out.cell 3
  have y4 := Y0.out.cell 4
  have y5 := Y0.out.cell 5
  have y6 := Y0.out.cell 6
  have y7 := Y0.out.cell 7
  simp only [List.getElem?_toArray, List.getElem?_cons_zero, List.getElem?_cons_succ] at y0 y1 y2 y3 y4 y5 y6 y7
  go_wp2_with fail
  refine (same_any s.hp A B c d _ OX0.out OY0.out HFX.out).mono ?_
  rintro e w1 ⟨rfl, hb⟩
  clear x0 x1 x2 x3 x4 x5 x6 x7 y0 y1 y2 y3 y4 y5 y6 y7
  have HB1 := hid (then_w HB0.out hb)
  have X1 := hid (X0.out.later hb)
  have Y1 := hid (Y0.out.later hb)
  have OX1 := hid (OX0.out.below hb)
  have OY1 := hid (OY0.out.below hb)
  clear hb
  clear HB0 X0 Y0 OX0 OY0
  have x0 := X1.out.cell 0
  have x1 := X1.out.cell 1
  have x2 := X1.out.cell 2
  have x3 := X1.out.cell 3
  have x4 := X1.out.cell 4
  have x5 := X1.out.cell 5
  have x6 := X1.out.cell 6
  have x7 := X1.out.cell 7
  simp only [List.getElem?_toArray, List.getElem?_cons_zero, List.getElem?_cons_succ] at x0 x1 x2 x3 x4 x5 x6 x7
  have y0 := Y1.out.cell 0
  have y1 := Y1.out.cell 1
  have y2 := Y1.out.cell 2
  have y3 := Y1.out.cell 3
  have y4 := Y1.out.cell 4
  have y5 := Y1.out.cell 5
  have y6 := Y1.out.cell 6
  have y7 := Y1.out.cell 7
  simp only [List.getElem?_toArray, List.getElem?_cons_zero, List.getElem?_cons_succ] at y0 y1 y2 y3 y4 y5 y6 y7
  go_wp2_with fail
  clear x0 x1 x2 x3 x4 x5 x6 x7 y0 y1 y2 y3 y4 y5 y6 y7
  go_ret
  exact ⟨rfl, HB1.out⟩
end Go.Proofs.YtnilempeldlieaaGreat
