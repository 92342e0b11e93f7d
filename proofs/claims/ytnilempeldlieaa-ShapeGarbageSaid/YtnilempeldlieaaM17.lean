/- ShapeSame walked: whatever two states, it answers true. Heaps that may be are small. What was written is read at its place, and all else is as it was: over plain heaps. -/
import Derived.Test.YtnilempeldlieaaWSX15
import Derived.Test.YtnilempeldlieaaWSG15
import Derived.Test.YtnilempeldlieaaM03
import Derived.Test.YtnilempeldlieaaM04
namespace Go.Proofs.Ytnilempeldlieaa
open Go.RowKit
set_option maxRecDepth 100000
set_option maxHeartbeats 4000000 in
theorem lsame_any15 (s : St) (A : Option Addr) (c : Nat) (t : St) (B : Option Addr) (d : Nat) (w : World) (hsX : ObsR w A s.hp.objs) (fitX : s.hp.Fit) (hsY : ObsR w B t.hp.objs) (fitY : t.hp.Fit) :
    Calls Try.prog 3 #[.agg #[.slice A s.hp.objs.length c, .int .i64 s.hp.cap, .int .i64 s.hp.last, .int .i64 s.proc, .int .i64 s.ready, .int .i64 s.halt, .int .i64 s.steps, .int .i64 s.used], .agg #[.slice B t.hp.objs.length d, .int .i64 t.hp.cap, .int .i64 t.hp.last, .int .i64 t.proc, .int .i64 t.ready, .int .i64 t.halt, .int .i64 t.steps, .int .i64 t.used]] w fun e w' => e = .returned (.bool (true)) ∧ Below w.heap.size w w' := by
  obtain ⟨w0, hw0⟩ : ∃ w0, w0 = ((w.alloc (.cells #[.slice A s.hp.objs.length c, .int .i64 s.hp.cap, .int .i64 s.hp.last, .int .i64 s.proc, .int .i64 s.ready, .int .i64 s.halt, .int .i64 s.steps, .int .i64 s.used] 27)).alloc (.cells #[.slice B t.hp.objs.length d, .int .i64 t.hp.cap, .int .i64 t.hp.last, .int .i64 t.proc, .int .i64 t.ready, .int .i64 t.halt, .int .i64 t.steps, .int .i64 t.used] 27)) := ⟨_, rfl⟩
  have HB0 : Hid (Below w.heap.size w w0) := by show Below _ _ _; rw [hw0]; exact below_alloc2 w _ _
  have X0 : Hid (Lies w0 (w.heap.size) 27 #[.slice A s.hp.objs.length c, .int .i64 s.hp.cap, .int .i64 s.hp.last, .int .i64 s.proc, .int .i64 s.ready, .int .i64 s.halt, .int .i64 s.steps, .int .i64 s.used]) := by
    show Lies _ _ _ _
    rw [hw0]
    have := (Lies.new w 27 #[.slice A s.hp.objs.length c, .int .i64 s.hp.cap, .int .i64 s.hp.last, .int .i64 s.proc, .int .i64 s.ready, .int .i64 s.halt, .int .i64 s.steps, .int .i64 s.used]).alloc (.cells #[.slice B t.hp.objs.length d, .int .i64 t.hp.cap, .int .i64 t.hp.last, .int .i64 t.proc, .int .i64 t.ready, .int .i64 t.halt, .int .i64 t.steps, .int .i64 t.used] 27)
    simpa [Hid] using this
  have OX0 := hid (hsX.below HB0.out)
  have HFX := hid fitX
  have hflX := fitX.1
  have Y0 : Hid (Lies w0 (w.heap.size + 1) 27 #[.slice B t.hp.objs.length d, .int .i64 t.hp.cap, .int .i64 t.hp.last, .int .i64 t.proc, .int .i64 t.ready, .int .i64 t.halt, .int .i64 t.steps, .int .i64 t.used]) := by
    show Lies _ _ _ _
    rw [hw0]
    have := Lies.new (w.alloc (.cells #[.slice A s.hp.objs.length c, .int .i64 s.hp.cap, .int .i64 s.hp.last, .int .i64 s.proc, .int .i64 s.ready, .int .i64 s.halt, .int .i64 s.steps, .int .i64 s.used] 27)) 27 #[.slice B t.hp.objs.length d, .int .i64 t.hp.cap, .int .i64 t.hp.last, .int .i64 t.proc, .int .i64 t.ready, .int .i64 t.halt, .int .i64 t.steps, .int .i64 t.used]
    simpa [Hid] using this
  have OY0 := hid (hsY.below HB0.out)
  have HFY := hid fitY
  have hflY := fitY.1
  clear hsX fitX hsY fitY
  go_enter Try.func3, Try.ntmps3
  go_upto_region 1 with fail
  rw [← hw0]
  clear hw0
  have x0 := X0.out.cell 0
  have x1 := X0.out.cell 1
  have x2 := X0.out.cell 2
  have x3 := X0.out.cell 3
  have x4 := X0.out.cell 4
  have x5 := X0.out.cell 5
  have x6 := X0.out.cell 6
  have x7 := X0.out.cell 7
  simp only [List.getElem?_toArray, List.getElem?_cons_zero, List.getElem?_cons_succ] at x0 x1 x2 x3 x4 x5 x6 x7
  have y0 := Y0.out.cell 0
  have y1 := Y0.out.cell 1
  have y2 := Y0.out.cell 2
  have y3 := Y0.out.cell 3
  have y4 := Y0.out.cell 4
  have y5 := Y0.out.cell 5
  have y6 := Y0.out.cell 6
  have y7 := Y0.out.cell 7
  simp only [List.getElem?_toArray, List.getElem?_cons_zero, List.getElem?_cons_succ] at y0 y1 y2 y3 y4 y5 y6 y7
  go_wp2_with fail
  refine (small_ok s.hp A c _ OX0.out HFX.out).mono ?_
  rintro e w1 ⟨sm, rfl, hb⟩
  clear x0 x1 x2 x3 x4 x5 x6 x7 y0 y1 y2 y3 y4 y5 y6 y7
  have HB1 := hid (then_w HB0.out hb)
  have X1 := hid (X0.out.later hb)
  have Y1 := hid (Y0.out.later hb)
  have OX1 := hid (OX0.out.below hb)
  have OY1 := hid (OY0.out.below hb)
  clear hb
  clear HB0 X0 Y0 OX0 OY0
  cases sm
  · have x0 := X1.out.cell 0
    have x1 := X1.out.cell 1
    have x2 := X1.out.cell 2
    have x3 := X1.out.cell 3
    have x4 := X1.out.cell 4
    have x5 := X1.out.cell 5
    have x6 := X1.out.cell 6
    have x7 := X1.out.cell 7
    simp only [List.getElem?_toArray, List.getElem?_cons_zero, List.getElem?_cons_succ] at x0 x1 x2 x3 x4 x5 x6 x7
    have y0 := Y1.out.cell 0
    have y1 := Y1.out.cell 1
    have y2 := Y1.out.cell 2
    have y3 := Y1.out.cell 3
    have y4 := Y1.out.cell 4
    have y5 := Y1.out.cell 5
    have y6 := Y1.out.cell 6
    have y7 := Y1.out.cell 7
    simp only [List.getElem?_toArray, List.getElem?_cons_zero, List.getElem?_cons_succ] at y0 y1 y2 y3 y4 y5 y6 y7
    go_wp2_with fail
    refine (fixed15_any _).mono ?_
    rintro e w2 ⟨rfl, hb⟩
    clear x0 x1 x2 x3 x4 x5 x6 x7 y0 y1 y2 y3 y4 y5 y6 y7
    have HB2 := hid (then_w HB1.out hb)
    have X2 := hid (X1.out.later hb)
    have Y2 := hid (Y1.out.later hb)
    have OX2 := hid (OX1.out.below hb)
    have OY2 := hid (OY1.out.below hb)
    clear hb
    clear HB1 X1 Y1 OX1 OY1
    go_wp2_with fail
    go_ret
    exact ⟨rfl, HB2.out⟩
  · have x0 := X1.out.cell 0
    have x1 := X1.out.cell 1
    have x2 := X1.out.cell 2
    have x3 := X1.out.cell 3
    have x4 := X1.out.cell 4
    have x5 := X1.out.cell 5
    have x6 := X1.out.cell 6
    have x7 := X1.out.cell 7
    simp only [List.getElem?_toArray, List.getElem?_cons_zero, List.getElem?_cons_succ] at x0 x1 x2 x3 x4 x5 x6 x7
    have y0 := Y1.out.cell 0
    have y1 := Y1.out.cell 1
    have y2 := Y1.out.cell 2
    have y3 := Y1.out.cell 3
    have y4 := Y1.out.cell 4
    have y5 := Y1.out.cell 5
    have y6 := Y1.out.cell 6
    have y7 := Y1.out.cell 7
    simp only [List.getElem?_toArray, List.getElem?_cons_zero, List.getElem?_cons_succ] at y0 y1 y2 y3 y4 y5 y6 y7
    go_wp2_with fail
    refine (small_ok t.hp B d _ OY1.out HFY.out).mono ?_
    rintro e w2 ⟨sm, rfl, hb⟩
    clear x0 x1 x2 x3 x4 x5 x6 x7 y0 y1 y2 y3 y4 y5 y6 y7
    have HB2 := hid (then_w HB1.out hb)
    have X2 := hid (X1.out.later hb)
    have Y2 := hid (Y1.out.later hb)
    have OX2 := hid (OX1.out.below hb)
    have OY2 := hid (OY1.out.below hb)
    clear hb
    clear HB1 X1 Y1 OX1 OY1
    cases sm
    · have x0 := X2.out.cell 0
      have x1 := X2.out.cell 1
      have x2 := X2.out.cell 2
      have x3 := X2.out.cell 3
      have x4 := X2.out.cell 4
      have x5 := X2.out.cell 5
      have x6 := X2.out.cell 6
      have x7 := X2.out.cell 7
      simp only [List.getElem?_toArray, List.getElem?_cons_zero, List.getElem?_cons_succ] at x0 x1 x2 x3 x4 x5 x6 x7
      have y0 := Y2.out.cell 0
      have y1 := Y2.out.cell 1
      have y2 := Y2.out.cell 2
      have y3 := Y2.out.cell 3
      have y4 := Y2.out.cell 4
      have y5 := Y2.out.cell 5
      have y6 := Y2.out.cell 6
      have y7 := Y2.out.cell 7
      simp only [List.getElem?_toArray, List.getElem?_cons_zero, List.getElem?_cons_succ] at y0 y1 y2 y3 y4 y5 y6 y7
      go_wp2_with fail
      refine (fixed15_any _).mono ?_
      rintro e w3 ⟨rfl, hb⟩
      clear x0 x1 x2 x3 x4 x5 x6 x7 y0 y1 y2 y3 y4 y5 y6 y7
      have HB3 := hid (then_w HB2.out hb)
      have X3 := hid (X2.out.later hb)
      have Y3 := hid (Y2.out.later hb)
      have OX3 := hid (OX2.out.below hb)
      have OY3 := hid (OY2.out.below hb)
      clear hb
      clear HB2 X2 Y2 OX2 OY2
      go_wp2_with fail
      go_ret
      exact ⟨rfl, HB3.out⟩
    · by_cases q1 : 60 < s.hp.objs.length
      · have q1' : (60 : Int) < (s.hp.objs.length : Int) := by omega
        have x0 := X2.out.cell 0
        have x1 := X2.out.cell 1
        have x2 := X2.out.cell 2
        have x3 := X2.out.cell 3
        have x4 := X2.out.cell 4
        have x5 := X2.out.cell 5
        have x6 := X2.out.cell 6
        have x7 := X2.out.cell 7
        simp only [List.getElem?_toArray, List.getElem?_cons_zero, List.getElem?_cons_succ] at x0 x1 x2 x3 x4 x5 x6 x7
        have y0 := Y2.out.cell 0
        have y1 := Y2.out.cell 1
        have y2 := Y2.out.cell 2
        have y3 := Y2.out.cell 3
        have y4 := Y2.out.cell 4
        have y5 := Y2.out.cell 5
        have y6 := Y2.out.cell 6
        have y7 := Y2.out.cell 7
        simp only [List.getElem?_toArray, List.getElem?_cons_zero, List.getElem?_cons_succ] at y0 y1 y2 y3 y4 y5 y6 y7
        go_wp2_with fail
        refine (fixed15_any _).mono ?_
        rintro e w3 ⟨rfl, hb⟩
        clear x0 x1 x2 x3 x4 x5 x6 x7 y0 y1 y2 y3 y4 y5 y6 y7
        have HB3 := hid (then_w HB2.out hb)
        have X3 := hid (X2.out.later hb)
        have Y3 := hid (Y2.out.later hb)
        have OX3 := hid (OX2.out.below hb)
        have OY3 := hid (OY2.out.below hb)
        clear hb
        clear HB2 X2 Y2 OX2 OY2
        go_wp2_with fail
        go_ret
        exact ⟨rfl, HB3.out⟩
      · have q1' : ¬ (60 : Int) < (s.hp.objs.length : Int) := by omega
        by_cases q2 : 60 < t.hp.objs.length
        · have q2' : (60 : Int) < (t.hp.objs.length : Int) := by omega
          have x0 := X2.out.cell 0
          have x1 := X2.out.cell 1
          have x2 := X2.out.cell 2
          have x3 := X2.out.cell 3
          have x4 := X2.out.cell 4
          have x5 := X2.out.cell 5
          have x6 := X2.out.cell 6
          have x7 := X2.out.cell 7
          simp only [List.getElem?_toArray, List.getElem?_cons_zero, List.getElem?_cons_succ] at x0 x1 x2 x3 x4 x5 x6 x7
          have y0 := Y2.out.cell 0
          have y1 := Y2.out.cell 1
          have y2 := Y2.out.cell 2
          have y3 := Y2.out.cell 3
          have y4 := Y2.out.cell 4
          have y5 := Y2.out.cell 5
          have y6 := Y2.out.cell 6
          have y7 := Y2.out.cell 7
          simp only [List.getElem?_toArray, List.getElem?_cons_zero, List.getElem?_cons_succ] at y0 y1 y2 y3 y4 y5 y6 y7
          go_wp2_with fail
          refine (fixed15_any _).mono ?_
          rintro e w3 ⟨rfl, hb⟩
          clear x0 x1 x2 x3 x4 x5 x6 x7 y0 y1 y2 y3 y4 y5 y6 y7
          have HB3 := hid (then_w HB2.out hb)
          have X3 := hid (X2.out.later hb)
          have Y3 := hid (Y2.out.later hb)
          have OX3 := hid (OX2.out.below hb)
          have OY3 := hid (OY2.out.below hb)
          clear hb
          clear HB2 X2 Y2 OX2 OY2
          go_wp2_with fail
          go_ret
          exact ⟨rfl, HB3.out⟩
        · have q2' : ¬ (60 : Int) < (t.hp.objs.length : Int) := by omega
          have x0 := X2.out.cell 0
          have x1 := X2.out.cell 1
          have x2 := X2.out.cell 2
          have x3 := X2.out.cell 3
          have x4 := X2.out.cell 4
          have x5 := X2.out.cell 5
          have x6 := X2.out.cell 6
          have x7 := X2.out.cell 7
          simp only [List.getElem?_toArray, List.getElem?_cons_zero, List.getElem?_cons_succ] at x0 x1 x2 x3 x4 x5 x6 x7
          have y0 := Y2.out.cell 0
          have y1 := Y2.out.cell 1
          have y2 := Y2.out.cell 2
          have y3 := Y2.out.cell 3
          have y4 := Y2.out.cell 4
          have y5 := Y2.out.cell 5
          have y6 := Y2.out.cell 6
          have y7 := Y2.out.cell 7
          simp only [List.getElem?_toArray, List.getElem?_cons_zero, List.getElem?_cons_succ] at y0 y1 y2 y3 y4 y5 y6 y7
          obtain ⟨b0, hb0⟩ : ∃ x, x = ssB s t := ⟨_, rfl⟩
          have HBS := hid hb0.symm
          clear hb0
          go_wp2_with fail
          refine wp_region_held_drew (S := (fun w' => w'.cell? ⟨(w.heap.size), 0, none⟩ = some (.slice A s.hp.objs.length c) ∧ w'.cell? ⟨(w.heap.size), 1, none⟩ = some (.int .i64 s.hp.cap) ∧ w'.cell? ⟨(w.heap.size), 2, none⟩ = some (.int .i64 s.hp.last) ∧ w'.cell? ⟨(w.heap.size), 3, none⟩ = some (.int .i64 s.proc) ∧ w'.cell? ⟨(w.heap.size), 4, none⟩ = some (.int .i64 s.ready) ∧ w'.cell? ⟨(w.heap.size), 5, none⟩ = some (.int .i64 s.halt) ∧ w'.cell? ⟨(w.heap.size), 6, none⟩ = some (.int .i64 s.steps) ∧ w'.cell? ⟨(w.heap.size), 7, none⟩ = some (.int .i64 s.used) ∧ w'.cell? ⟨(w.heap.size + 1), 0, none⟩ = some (.slice B t.hp.objs.length d) ∧ w'.cell? ⟨(w.heap.size + 1), 1, none⟩ = some (.int .i64 t.hp.cap) ∧ w'.cell? ⟨(w.heap.size + 1), 2, none⟩ = some (.int .i64 t.hp.last) ∧ w'.cell? ⟨(w.heap.size + 1), 3, none⟩ = some (.int .i64 t.proc) ∧ w'.cell? ⟨(w.heap.size + 1), 4, none⟩ = some (.int .i64 t.ready) ∧ w'.cell? ⟨(w.heap.size + 1), 5, none⟩ = some (.int .i64 t.halt) ∧ w'.cell? ⟨(w.heap.size + 1), 6, none⟩ = some (.int .i64 t.steps) ∧ w'.cell? ⟨(w.heap.size + 1), 7, none⟩ = some (.int .i64 t.used))) (by kernel_rfl) ?_ (fun hH0 => ?_)
          · exact ⟨x0, x1, x2, x3, x4, x5, x6, x7, y0, y1, y2, y3, y4, y5, y6, y7⟩
          refine wpAnyH_ready (rs := [0]) (by kernel_rfl) (by simp) ?_
          refine AllReadyH.cons (i := 0) (o := { dst := some 30, op := Go.Op.call { callee := Go.Callee.value (Go.Operand.func 7), args := #[], argTypes := #[] }, type := 4, pos := "law.go:47", after := #[], guard := none }) rfl (fun K hK => ?_) AllReadyH.nil
          go_simp
          go_at_call 7
          refine (fixed15_any _).mono ?_
          rintro e v1 ⟨rfl, hb⟩
          have HV1 := hid (then_b (Below.refl _ w2).drew hb)
          refine hK.out _ _ ?_ (fun hH1 => ?_)
          · exact ⟨cell_later hb hH0.1, cell_later hb hH0.2.1, cell_later hb hH0.2.2.1, cell_later hb hH0.2.2.2.1, cell_later hb hH0.2.2.2.2.1, cell_later hb hH0.2.2.2.2.2.1, cell_later hb hH0.2.2.2.2.2.2.1, cell_later hb hH0.2.2.2.2.2.2.2.1, cell_later hb hH0.2.2.2.2.2.2.2.2.1, cell_later hb hH0.2.2.2.2.2.2.2.2.2.1, cell_later hb hH0.2.2.2.2.2.2.2.2.2.2.1, cell_later hb hH0.2.2.2.2.2.2.2.2.2.2.2.1, cell_later hb hH0.2.2.2.2.2.2.2.2.2.2.2.2.1, cell_later hb hH0.2.2.2.2.2.2.2.2.2.2.2.2.2.1, cell_later hb hH0.2.2.2.2.2.2.2.2.2.2.2.2.2.2.1, cell_later hb hH0.2.2.2.2.2.2.2.2.2.2.2.2.2.2.2⟩
          clear hK K
          try simp only [Act.put, List.setIfInBounds_toArray, List.set_cons_zero, List.set_cons_succ]
          clear hb
          refine wpAnyH_take (i := 1) (oi := { dst := some 31, op := Go.Op.move (Go.Operand.tmp 30), type := 4, pos := "law.go:47", after := #[{ on := 0, ground := Go.Ground.data }, { on := 0, ground := Go.Ground.chain }], guard := none }) (v := ?vv8) rfl (by kernel_rfl) (by kernel_rfl) (by kernel_rfl) (fun _ _ _ h => h) (Or.inl ⟨by rfl, ?hy8⟩) (by assumption) ?rr8
          case hy8 => intro w hSw; (try dsimp only at hSw); go_simp; all_goals with_reducible rfl
          try simp only [Act.put, List.setIfInBounds_toArray, List.set_cons_zero, List.set_cons_succ]
          refine wpAnyH_take (i := 2) (oi := { dst := some 32, op := Go.Op.load 27 (Go.Operand.tmp 2), type := 27, pos := "law.go:47", after := #[{ on := 1, ground := Go.Ground.guard }], guard := some (1, true) }) (v := ?vv9) rfl (by kernel_rfl) (by kernel_rfl) (by kernel_rfl) (fun _ _ _ h => h) (Or.inl ⟨by rfl, ?hy9⟩) (by assumption) ?rr9
          case hy9 => intro w hSw; (try dsimp only at hSw); go_simp; all_goals with_reducible rfl
          try simp only [Act.put, List.setIfInBounds_toArray, List.set_cons_zero, List.set_cons_succ]
          refine wpAnyH_take (i := 3) (oi := { dst := some 33, op := Go.Op.load 27 (Go.Operand.tmp 3), type := 27, pos := "law.go:47", after := #[{ on := 1, ground := Go.Ground.guard }], guard := some (1, true) }) (v := ?vv10) rfl (by kernel_rfl) (by kernel_rfl) (by kernel_rfl) (fun _ _ _ h => h) (Or.inl ⟨by rfl, ?hy10⟩) (by assumption) ?rr10
          case hy10 => intro w hSw; (try dsimp only at hSw); go_simp; all_goals with_reducible rfl
          try simp only [Act.put, List.setIfInBounds_toArray, List.set_cons_zero, List.set_cons_succ]
          refine wpAnyH_take (i := 5) (oi := { dst := some 35, op := Go.Op.load 27 (Go.Operand.tmp 2), type := 27, pos := "law.go:47", after := #[{ on := 1, ground := Go.Ground.guard }], guard := some (1, true) }) (v := ?vv11) rfl (by kernel_rfl) (by kernel_rfl) (by kernel_rfl) (fun _ _ _ h => h) (Or.inl ⟨by rfl, ?hy11⟩) (by assumption) ?rr11
          case hy11 => intro w hSw; (try dsimp only at hSw); go_simp; all_goals with_reducible rfl
          try simp only [Act.put, List.setIfInBounds_toArray, List.set_cons_zero, List.set_cons_succ]
          refine wpAnyH_take (i := 6) (oi := { dst := some 36, op := Go.Op.load 27 (Go.Operand.tmp 3), type := 27, pos := "law.go:47", after := #[{ on := 1, ground := Go.Ground.guard }], guard := some (1, true) }) (v := ?vv12) rfl (by kernel_rfl) (by kernel_rfl) (by kernel_rfl) (fun _ _ _ h => h) (Or.inl ⟨by rfl, ?hy12⟩) (by assumption) ?rr12
          case hy12 => intro w hSw; (try dsimp only at hSw); go_simp; all_goals with_reducible rfl
          try simp only [Act.put, List.setIfInBounds_toArray, List.set_cons_zero, List.set_cons_succ]
          refine wpAnyH_ready (rs := [4]) (by kernel_rfl) (by simp) ?_
          refine AllReadyH.cons (i := 4) (o := { dst := some 34, op := Go.Op.call { callee := Go.Callee.value (Go.Operand.func 8), args := #[Go.Operand.tmp 32, Go.Operand.tmp 33], argTypes := #[27, 27] }, type := 4, pos := "law.go:47", after := #[{ on := 2, ground := Go.Ground.data }, { on := 3, ground := Go.Ground.data }, { on := 1, ground := Go.Ground.chain }, { on := 1, ground := Go.Ground.guard }], guard := some (1, true) }) rfl (fun K hK => ?_) AllReadyH.nil
          go_simp
          go_at_call 8
          refine (csameL15 HBS.out A c B d _ (OX2.out.below HV1.out) HFX.out (OY2.out.below HV1.out) HFY.out).mono ?_
          rintro e v2 ⟨rfl, hb⟩
          have HV2 := hid (then_b HV1.out hb)
          refine hK.out _ _ ?_ (fun hH2 => ?_)
          · exact ⟨cell_later hb hH1.1, cell_later hb hH1.2.1, cell_later hb hH1.2.2.1, cell_later hb hH1.2.2.2.1, cell_later hb hH1.2.2.2.2.1, cell_later hb hH1.2.2.2.2.2.1, cell_later hb hH1.2.2.2.2.2.2.1, cell_later hb hH1.2.2.2.2.2.2.2.1, cell_later hb hH1.2.2.2.2.2.2.2.2.1, cell_later hb hH1.2.2.2.2.2.2.2.2.2.1, cell_later hb hH1.2.2.2.2.2.2.2.2.2.2.1, cell_later hb hH1.2.2.2.2.2.2.2.2.2.2.2.1, cell_later hb hH1.2.2.2.2.2.2.2.2.2.2.2.2.1, cell_later hb hH1.2.2.2.2.2.2.2.2.2.2.2.2.2.1, cell_later hb hH1.2.2.2.2.2.2.2.2.2.2.2.2.2.2.1, cell_later hb hH1.2.2.2.2.2.2.2.2.2.2.2.2.2.2.2⟩
          clear hK K
          try simp only [Act.put, List.setIfInBounds_toArray, List.set_cons_zero, List.set_cons_succ]
          clear hb
          refine wpAnyH_ready (rs := [7]) (by kernel_rfl) (by simp) ?_
          refine AllReadyH.cons (i := 7) (o := { dst := some 37, op := Go.Op.call { callee := Go.Callee.value (Go.Operand.func 9), args := #[Go.Operand.tmp 35, Go.Operand.tmp 36], argTypes := #[27, 27] }, type := 4, pos := "law.go:47", after := #[{ on := 5, ground := Go.Ground.data }, { on := 6, ground := Go.Ground.data }, { on := 4, ground := Go.Ground.chain }, { on := 1, ground := Go.Ground.guard }], guard := some (1, true) }) rfl (fun K hK => ?_) AllReadyH.nil
          go_simp
          go_at_call 9
          refine (rsameL15 HBS.out A c B d _ (OX2.out.below HV2.out) HFX.out (OY2.out.below HV2.out) HFY.out).mono ?_
          rintro e v3 ⟨rfl, hb⟩
          have HV3 := hid (then_b HV2.out hb)
          refine hK.out _ _ ?_ (fun hH3 => ?_)
          · exact ⟨cell_later hb hH2.1, cell_later hb hH2.2.1, cell_later hb hH2.2.2.1, cell_later hb hH2.2.2.2.1, cell_later hb hH2.2.2.2.2.1, cell_later hb hH2.2.2.2.2.2.1, cell_later hb hH2.2.2.2.2.2.2.1, cell_later hb hH2.2.2.2.2.2.2.2.1, cell_later hb hH2.2.2.2.2.2.2.2.2.1, cell_later hb hH2.2.2.2.2.2.2.2.2.2.1, cell_later hb hH2.2.2.2.2.2.2.2.2.2.2.1, cell_later hb hH2.2.2.2.2.2.2.2.2.2.2.2.1, cell_later hb hH2.2.2.2.2.2.2.2.2.2.2.2.2.1, cell_later hb hH2.2.2.2.2.2.2.2.2.2.2.2.2.2.1, cell_later hb hH2.2.2.2.2.2.2.2.2.2.2.2.2.2.2.1, cell_later hb hH2.2.2.2.2.2.2.2.2.2.2.2.2.2.2.2⟩
          clear hK K
          try simp only [Act.put, List.setIfInBounds_toArray, List.set_cons_zero, List.set_cons_succ]
          clear hb
          refine wpAnyH_take (i := 8) (oi := { dst := some 38, op := Go.Op.binOp Go.BinOp.eql 4 (Go.Operand.tmp 34) (Go.Operand.tmp 37) 4, type := 4, pos := "law.go:47", after := #[{ on := 4, ground := Go.Ground.data }, { on := 7, ground := Go.Ground.data }, { on := 1, ground := Go.Ground.guard }], guard := some (1, true) }) (v := ?vv13) rfl (by kernel_rfl) (by kernel_rfl) (by kernel_rfl) (fun _ _ _ h => h) (Or.inl ⟨by rfl, ?hy13⟩) (by assumption) ?rr13
          case hy13 => intro w hSw; (try dsimp only at hSw); go_simp; all_goals with_reducible rfl
          try simp only [Act.put, List.setIfInBounds_toArray, List.set_cons_zero, List.set_cons_succ]
          refine wpAnyH_take (i := 9) (oi := { dst := some 39, op := Go.Op.pick (Go.Operand.tmp 31) (Go.Operand.tmp 38) (Go.Operand.const (Go.Value.bool false)), type := 4, pos := "law.go:47", after := #[{ on := 1, ground := Go.Ground.data }, { on := 8, ground := Go.Ground.data }], guard := none }) (v := ?vv14) rfl (by kernel_rfl) (by kernel_rfl) (by kernel_rfl) (fun _ _ _ h => h) (Or.inl ⟨by rfl, ?hy14⟩) (by assumption) ?rr14
          case hy14 => intro w hSw; (try dsimp only at hSw); go_simp; all_goals with_reducible rfl
          try simp only [Act.put, List.setIfInBounds_toArray, List.set_cons_zero, List.set_cons_succ]
          refine wpAnyH_take (i := 10) (oi := { dst := some 4, op := Go.Op.assign (Go.Operand.tmp 39), type := 4, pos := "law.go:47", after := #[{ on := 9, ground := Go.Ground.data }, { on := 7, ground := Go.Ground.chain }, { on := 0, ground := Go.Ground.phase }, { on := 1, ground := Go.Ground.phase }, { on := 2, ground := Go.Ground.phase }, { on := 3, ground := Go.Ground.phase }, { on := 4, ground := Go.Ground.phase }, { on := 5, ground := Go.Ground.phase }, { on := 6, ground := Go.Ground.phase }, { on := 7, ground := Go.Ground.phase }, { on := 8, ground := Go.Ground.phase }, { on := 9, ground := Go.Ground.phase }], guard := none }) (v := ?vv15) rfl (by kernel_rfl) (by kernel_rfl) (by kernel_rfl) (fun _ _ _ h => h) (Or.inl ⟨by rfl, ?hy15⟩) (by assumption) ?rr15
          case hy15 => intro w hSw; (try dsimp only at hSw); go_simp; all_goals with_reducible rfl
          try simp only [Act.put, List.setIfInBounds_toArray, List.set_cons_zero, List.set_cons_succ]
          refine wpAnyH_done (by kernel_rfl) ?_ _
          go_wp2_with fail
          go_ret
          exact ⟨by simp, then_b HB2.out HV3.out⟩
end Go.Proofs.Ytnilempeldlieaa
namespace Go.Proofs.Ytnilempeldlieaa
open Go.RowKit
theorem fitZ : zeroH.Fit := ⟨Nat.zero_le _, fun o ho => by simp [zeroH] at ho⟩
theorem may_fit {h : Hp} (hm : mayB h = true) : h.Fit :=
  ⟨by have := may_len hm; omega, fun o ho => by have := (kind_len (ob_kind (may_all hm o ho))).1; show o.slots.length ≤ _; omega⟩
end Go.Proofs.Ytnilempeldlieaa
namespace Go.Proofs.Ytnilempeldlieaa
open Go.RowKit
theorem atB_eq {u v : Int} (hu : atB u = true) (hv : atB v = true) (h : atV u = atV v) : u = v := by
  have h1 := atB_iff.1 hu
  have h2 := atB_iff.1 hv
  unfold atV at h
  rw [if_pos hu, if_pos hv] at h
  omega
/-- one object in another's place -/
def putO (h : Hp) (i : Nat) (o : Ob) : Hp := { h with objs := h.objs.set i o }
theorem putO_len (h : Hp) (i : Nat) (o : Ob) : (putO h i o).objs.length = h.objs.length := by simp [putO]
theorem putO_may {h : Hp} (hm : mayB h = true) {i : Nat} {o : Ob} (ho : obB h.objs.length o = true) : mayB (putO h i o) = true := by
  have hm' := hm
  unfold mayB at hm ⊢
  rw [putO_len]
  simp only [Bool.and_eq_true] at hm ⊢
  refine ⟨hm.1, List.all_eq_true.2 fun p hp => ?_⟩
  rcases List.mem_or_eq_of_mem_set hp with h1 | h1
  · exact may_all hm' p h1
  · rw [h1]; exact ho
theorem obAt_put {h : Hp} {v u : Int} (hv : refB h.objs.length v = true) (hu : refB h.objs.length u = true) (o : Ob) : obAt (putO h (atV v).toNat o) u = if u = v then o else obAt h u := by
  obtain ⟨b1, c1, d1⟩ := refB_no hv
  obtain ⟨b2, c2, d2⟩ := refB_no hu
  unfold obAt putO
  rw [List.getD_eq_getElem?_getD, List.getD_eq_getElem?_getD]
  show ((h.objs.set _ o)[(atV u).toNat]?).getD default = _
  rw [List.getElem?_set]
  by_cases e : u = v
  · subst e; rw [if_pos rfl, if_pos (by omega), if_pos rfl]; rfl
  · rw [if_neg (fun g => e (atB_eq b2 b1 (by omega))), if_neg e]
theorem putO_back {h : Hp} {v : Int} (hv : refB h.objs.length v = true) (o : Ob) : putO (putO h (atV v).toNat o) (atV v).toNat (obAt h v) = h := by
  obtain ⟨i, hi, e, ho⟩ := obAt_get hv
  unfold putO
  rw [show (atV v).toNat = i by omega]
  simp only [List.set_set]
  have : h.objs.set i (obAt h v) = h.objs := by
    apply List.ext_getElem?
    intro j
    rw [List.getElem?_set]
    by_cases e : i = j
    · subst e; rw [if_pos rfl, if_pos hi, ho]
    · rw [if_neg e]
  rw [this]
theorem setH_put (h : Hp) (v k x : Int) : setH h v k x = putO h (atV v).toNat { obAt h v with slots := (obAt h v).slots.set k.toNat x } := rfl
structure Placed (h : Hp) (v k : Int) : Prop where
  may : mayB h = true
  ref : refB h.objs.length v = true
  kind : (obAt h v).kind = 0
  lo : 0 ≤ k
  hi : k.toNat < (obAt h v).slots.length
theorem placed {h : Hp} {v k : Int} (e : plE h v 0 k = 0) : Placed h v k := by
  obtain ⟨h1, h2, h3, h4, h5⟩ := pl_ok e
  refine ⟨h1, h2, h3, h4, ?_⟩
  unfold szO at h5
  rw [if_neg (by decide)] at h5
  omega
theorem ob_mem {h : Hp} {v : Int} (hv : refB h.objs.length v = true) : obAt h v ∈ h.objs := by
  obtain ⟨i, _, _, ho⟩ := obAt_get hv
  exact List.mem_of_getElem? ho
theorem slots_ob {n : Nat} {o : Ob} (h : obB n o = true) (hk : o.kind = 0) {j : Nat} {x : Int} (hx : hasB n x = true) : obB n { o with slots := o.slots.set j x } = true := by
  unfold obB at h ⊢
  simp only [Bool.and_eq_true] at h ⊢
  obtain ⟨⟨⟨h1, h2⟩, h3⟩, h4⟩ := h
  refine ⟨⟨⟨h1, h2⟩, ?_⟩, ?_⟩
  · unfold kiB at h3 ⊢
    rw [if_pos hk] at h3
    rw [if_pos hk]
    simpa using h3
  · refine List.all_eq_true.2 fun y hy => ?_
    rcases List.mem_or_eq_of_mem_set hy with g | g
    · exact List.all_eq_true.1 h4 y g
    · rw [g]; exact hx
theorem set_may {h : Hp} {v k x : Int} (p : Placed h v k) (hx : hasB h.objs.length x = true) : mayB (setH h v k x) = true := by
  rw [setH_put]
  exact putO_may p.may (slots_ob (may_all p.may _ (ob_mem p.ref)) p.kind hx)
theorem setH_len (h : Hp) (v k x : Int) : (setH h v k x).objs.length = h.objs.length := putO_len _ _ _
theorem set_plE {h : Hp} {v k x : Int} (p : Placed h v k) (hx : hasB h.objs.length x = true) (u kind l : Int) : plE (setH h v k x) u kind l = plE h u kind l := by
  unfold plE
  rw [set_may p hx, p.may, setH_len]
  by_cases hu : refB h.objs.length u = true
  · have e := obAt_put p.ref hu { obAt h v with slots := (obAt h v).slots.set k.toNat x }
    rw [← setH_put] at e
    rw [e]
    by_cases g : u = v
    · subst g
      rw [if_pos rfl]
      have e2 : szO kind { obAt h u with slots := (obAt h u).slots.set k.toNat x } = szO kind (obAt h u) := by unfold szO; rw [List.length_set]
      rw [e2]
    · rw [if_neg g]
  · simp only [Bool.not_eq_true] at hu
    simp [hu]
theorem set_get_x {h : Hp} {v k x : Int} (e : plE h v 0 k = 0) (hx : hasB h.objs.length x = true) : geV (setH h v k x) v k = x := by
  have p := placed e
  unfold geV
  rw [set_plE p hx, if_pos e, setH_put, obAt_put p.ref p.ref, if_pos rfl]
  have hi := p.hi
  simp [List.getD_eq_getElem?_getD, hi]
theorem set_back {h : Hp} {v k x : Int} (e : plE h v 0 k = 0) (_hx : hasB h.objs.length x = true) : setH (setH h v k x) v k (geV h v k) = h := by
  have p := placed e
  have h1 : obAt (setH h v k x) v = { obAt h v with slots := (obAt h v).slots.set k.toNat x } := by rw [setH_put, obAt_put p.ref p.ref, if_pos rfl]
  have h2 : geV h v k = (obAt h v).slots.getD k.toNat 0 := by unfold geV; rw [if_pos e]
  have h3 : ((obAt h v).slots.set k.toNat x).set k.toNat (geV h v k) = (obAt h v).slots := by
    rw [h2, List.set_set]
    apply List.ext_getElem?
    intro j
    rw [List.getElem?_set]
    by_cases g : k.toNat = j
    · subst g; rw [if_pos rfl, if_pos p.hi, getD_at _ _ p.hi]
    · rw [if_neg g]
  rw [setH_put (setH h v k x), h1]
  show putO (setH h v k x) (atV v).toNat { obAt h v with slots := ((obAt h v).slots.set k.toNat x).set k.toNat (geV h v k) } = h
  rw [h3, setH_put]
  exact putO_back p.ref _
theorem geV_has {h : Hp} {v k : Int} (e : plE h v 0 k = 0) : hasB h.objs.length (geV h v k) = true := by
  have p := placed e
  have h2 : geV h v k = (obAt h v).slots.getD k.toNat 0 := by unfold geV; rw [if_pos e]
  have ho := may_all p.may _ (ob_mem p.ref)
  unfold obB at ho
  simp only [Bool.and_eq_true] at ho
  rw [h2, List.getD_eq_getElem?_getD, List.getElem?_eq_getElem p.hi]
  exact List.all_eq_true.1 ho.2 _ (List.getElem_mem p.hi)
theorem set_other {h : Hp} {v k x u l : Int} (e : plE h v 0 k = 0) (hx : hasB h.objs.length x = true) : geV h u l = geV (setH h v k x) u l ∨ (v = u ∧ k = l) := by
  have p := placed e
  unfold geV
  rw [set_plE p hx]
  by_cases e2 : plE h u 0 l = 0
  · have p2 := placed e2
    rw [if_pos e2, if_pos e2, setH_put, obAt_put p.ref p2.ref]
    by_cases g : u = v
    · subst g
      rw [if_pos rfl]
      by_cases g2 : k = l
      · exact .inr ⟨rfl, g2⟩
      · left
        have h1 := p.lo
        have h2 := p2.lo
        show _ = ((obAt h u).slots.set k.toNat x).getD l.toNat 0
        rw [List.getD_eq_getElem?_getD, List.getD_eq_getElem?_getD, List.getElem?_set, if_neg (by omega)]
    · rw [if_neg g]; exact .inl rfl
  · rw [if_neg e2, if_neg e2]; exact .inl rfl
/-- all that the law asks -/
theorem keeps_no {h : Hp} (hm : mayB h = true) {v k x : Int} (e : plE h v 0 k ≠ 0) : setE h v k x = plE h v 0 k ∧ setR h v k x = h := by
  have h1 : setE h v k x = plE h v 0 k := by unfold setE; rw [if_neg e]
  refine ⟨h1, ?_⟩
  unfold setR; rw [h1, if_neg e]
  unfold unH
  rw [if_neg]
  intro g
  unfold plE at g
  rw [if_neg (by rw [hm]; decide)] at g
  repeat' split at g
  all_goals cases g
theorem keeps_ref {h : Hp} {v k x : Int} (e : plE h v 0 k = 0) (hx : hasB h.objs.length x = false) : setE h v k x = 31 ∧ setR h v k x = h := by
  have h1 : setE h v k x = 31 := by unfold setE; rw [if_pos e, hx]; rfl
  exact ⟨h1, by unfold setR; rw [h1, if_neg (by decide)]; unfold unH; rw [if_neg (by decide)]⟩
theorem keeps_ok {h : Hp} {v k x : Int} (e : plE h v 0 k = 0) (hx : hasB h.objs.length x = true) : setE h v k x = 0 ∧ setR h v k x = setH h v k x := by
  have h1 : setE h v k x = 0 := by unfold setE; rw [if_pos e, hx]; rfl
  exact ⟨h1, by unfold setR; rw [if_pos h1]⟩
end Go.Proofs.Ytnilempeldlieaa
