/- CanonSame walked: whatever two heaps with roots, it answers true. -/
import Derived.Test.YtododpdkbdndoaaFX6
import Derived.Test.YtododpdkbdndoaaPQ
import Derived.Test.YtododpdkbdndoaaN
namespace Go.Proofs.Ytododpdkbdndoaa
open Go.RowKit
set_option maxRecDepth 100000
set_option maxHeartbeats 1500000 in
theorem csamelaw_any (a b : Hp) (p q : List Int) (A P B Q : Option Addr) (c dp d dq : Nat) (w : World) (hs0 : ObsR w A a.objs) (ft0 : a.Fit) (hr0 : IntsR w P p) (hl0 : p.length ≤ 9223372036854775807) (hs1 : ObsR w B b.objs) (ft1 : b.Fit) (hr1 : IntsR w Q q) (hl1 : q.length ≤ 9223372036854775807) :
    Calls Try.prog 10 #[.agg #[.slice A a.objs.length c, .int .i64 a.cap, .int .i64 a.last, .slice P p.length dp], .agg #[.slice B b.objs.length d, .int .i64 b.cap, .int .i64 b.last, .slice Q q.length dq]] w fun e w' => e = .returned (.bool true) ∧ Below w.heap.size w w' := by
  obtain ⟨w0, hw0⟩ : ∃ w0, w0 = ((w.alloc (.cells #[.slice A a.objs.length c, .int .i64 a.cap, .int .i64 a.last, .slice P p.length dp] 53)).alloc (.cells #[.slice B b.objs.length d, .int .i64 b.cap, .int .i64 b.last, .slice Q q.length dq] 53)) := ⟨_, rfl⟩
  have HB0 : Hid (Below w.heap.size w w0) := by show Below _ _ _; rw [hw0]; exact below_alloc2 w _ _
  have X0 : Hid (Lies w0 (w.heap.size) 53 #[.slice A a.objs.length c, .int .i64 a.cap, .int .i64 a.last, .slice P p.length dp]) := by
    show Lies _ _ _ _
    rw [hw0]
    have := (Lies.new w 53 #[.slice A a.objs.length c, .int .i64 a.cap, .int .i64 a.last, .slice P p.length dp]).alloc (.cells #[.slice B b.objs.length d, .int .i64 b.cap, .int .i64 b.last, .slice Q q.length dq] 53)
    simpa using this
  have OX0 := hid (hs0.below HB0.out)
  have RX0 := hid (hr0.below HB0.out)
  have HFX := hid ft0
  have hfl0 := ft0.1
  have Y0 : Hid (Lies w0 (w.heap.size + 1) 53 #[.slice B b.objs.length d, .int .i64 b.cap, .int .i64 b.last, .slice Q q.length dq]) := by
    show Lies _ _ _ _
    rw [hw0]
    have := Lies.new (w.alloc (.cells #[.slice A a.objs.length c, .int .i64 a.cap, .int .i64 a.last, .slice P p.length dp] 53)) 53 #[.slice B b.objs.length d, .int .i64 b.cap, .int .i64 b.last, .slice Q q.length dq]
    simpa using this
  have OY0 := hid (hs1.below HB0.out)
  have RY0 := hid (hr1.below HB0.out)
  have HFY := hid ft1
  have hfl1 := ft1.1
  clear hs0 ft0 hr0 hs1 ft1 hr1
  go_enter Try.func10, Try.ntmps10
  go_upto_region 1 with fail
  rw [← hw0]
  clear hw0
  have x0 := X0.out.cell 0
  have x1 := X0.out.cell 1
  have x2 := X0.out.cell 2
  have x3 := X0.out.cell 3
  have y0 := Y0.out.cell 0
  have y1 := Y0.out.cell 1
  have y2 := Y0.out.cell 2
  have y3 := Y0.out.cell 3
  simp only [List.getElem?_toArray, List.getElem?_cons_zero, List.getElem?_cons_succ] at x0 x1 x2 x3 y0 y1 y2 y3
  go_wp2_with fail
  refine (small_ok a A c _ OX0.out HFX.out).mono ?_
  rintro e w1 ⟨sm, rfl, hb⟩
  have HB1 := hid (HB0.out.trans (hb.mono HB0.out.size))
  have X1 := hid (X0.out.later hb)
  have Y1 := hid (Y0.out.later hb)
  have OX1 := hid (OX0.out.below hb)
  have RX1 := hid (RX0.out.below hb)
  have OY1 := hid (OY0.out.below hb)
  have RY1 := hid (RY0.out.below hb)
  clear x0 x1 x2 x3 y0 y1 y2 y3
  clear hb
  have x0 := X1.out.cell 0
  have x1 := X1.out.cell 1
  have x2 := X1.out.cell 2
  have x3 := X1.out.cell 3
  have y0 := Y1.out.cell 0
  have y1 := Y1.out.cell 1
  have y2 := Y1.out.cell 2
  have y3 := Y1.out.cell 3
  simp only [List.getElem?_toArray, List.getElem?_cons_zero, List.getElem?_cons_succ] at x0 x1 x2 x3 y0 y1 y2 y3
  cases sm
  · go_wp2_with fail
    refine (fixed6_any _).mono ?_
    rintro e w2 ⟨rfl, hb⟩
    have HB2 := hid (HB1.out.trans (hb.mono HB1.out.size))
    have X2 := hid (X1.out.later hb)
    have Y2 := hid (Y1.out.later hb)
    have OX2 := hid (OX1.out.below hb)
    have RX2 := hid (RX1.out.below hb)
    have OY2 := hid (OY1.out.below hb)
    have RY2 := hid (RY1.out.below hb)
    clear x0 x1 x2 x3 y0 y1 y2 y3
    clear hb
    have x0 := X2.out.cell 0
    have x1 := X2.out.cell 1
    have x2 := X2.out.cell 2
    have x3 := X2.out.cell 3
    have y0 := Y2.out.cell 0
    have y1 := Y2.out.cell 1
    have y2 := Y2.out.cell 2
    have y3 := Y2.out.cell 3
    simp only [List.getElem?_toArray, List.getElem?_cons_zero, List.getElem?_cons_succ] at x0 x1 x2 x3 y0 y1 y2 y3
    go_wp2_with fail
    go_ret
    exact ⟨rfl, HB2.out⟩
  · go_wp2_with fail
    refine (small_ok b B d _ OY1.out HFY.out).mono ?_
    rintro e w2 ⟨sm, rfl, hb⟩
    have HB2 := hid (HB1.out.trans (hb.mono HB1.out.size))
    have X2 := hid (X1.out.later hb)
    have Y2 := hid (Y1.out.later hb)
    have OX2 := hid (OX1.out.below hb)
    have RX2 := hid (RX1.out.below hb)
    have OY2 := hid (OY1.out.below hb)
    have RY2 := hid (RY1.out.below hb)
    clear x0 x1 x2 x3 y0 y1 y2 y3
    clear hb
    have x0 := X2.out.cell 0
    have x1 := X2.out.cell 1
    have x2 := X2.out.cell 2
    have x3 := X2.out.cell 3
    have y0 := Y2.out.cell 0
    have y1 := Y2.out.cell 1
    have y2 := Y2.out.cell 2
    have y3 := Y2.out.cell 3
    simp only [List.getElem?_toArray, List.getElem?_cons_zero, List.getElem?_cons_succ] at x0 x1 x2 x3 y0 y1 y2 y3
    cases sm
    · go_wp2_with fail
      refine (fixed6_any _).mono ?_
      rintro e w3 ⟨rfl, hb⟩
      have HB3 := hid (HB2.out.trans (hb.mono HB2.out.size))
      have X3 := hid (X2.out.later hb)
      have Y3 := hid (Y2.out.later hb)
      have OX3 := hid (OX2.out.below hb)
      have RX3 := hid (RX2.out.below hb)
      have OY3 := hid (OY2.out.below hb)
      have RY3 := hid (RY2.out.below hb)
      clear x0 x1 x2 x3 y0 y1 y2 y3
      clear hb
      have x0 := X3.out.cell 0
      have x1 := X3.out.cell 1
      have x2 := X3.out.cell 2
      have x3 := X3.out.cell 3
      have y0 := Y3.out.cell 0
      have y1 := Y3.out.cell 1
      have y2 := Y3.out.cell 2
      have y3 := Y3.out.cell 3
      simp only [List.getElem?_toArray, List.getElem?_cons_zero, List.getElem?_cons_succ] at x0 x1 x2 x3 y0 y1 y2 y3
      go_wp2_with fail
      go_ret
      exact ⟨rfl, HB3.out⟩
    · by_cases q1 : 40 < a.objs.length
      · go_wp2_with fail
        refine (fixed6_any _).mono ?_
        rintro e w3 ⟨rfl, hb⟩
        have HB3 := hid (HB2.out.trans (hb.mono HB2.out.size))
        have X3 := hid (X2.out.later hb)
        have Y3 := hid (Y2.out.later hb)
        have OX3 := hid (OX2.out.below hb)
        have RX3 := hid (RX2.out.below hb)
        have OY3 := hid (OY2.out.below hb)
        have RY3 := hid (RY2.out.below hb)
        clear x0 x1 x2 x3 y0 y1 y2 y3
        clear hb
        have x0 := X3.out.cell 0
        have x1 := X3.out.cell 1
        have x2 := X3.out.cell 2
        have x3 := X3.out.cell 3
        have y0 := Y3.out.cell 0
        have y1 := Y3.out.cell 1
        have y2 := Y3.out.cell 2
        have y3 := Y3.out.cell 3
        simp only [List.getElem?_toArray, List.getElem?_cons_zero, List.getElem?_cons_succ] at x0 x1 x2 x3 y0 y1 y2 y3
        go_wp2_with fail
        go_ret
        exact ⟨rfl, HB3.out⟩
      · by_cases q2 : 40 < b.objs.length
        · go_wp2_with fail
          refine (fixed6_any _).mono ?_
          rintro e w3 ⟨rfl, hb⟩
          have HB3 := hid (HB2.out.trans (hb.mono HB2.out.size))
          have X3 := hid (X2.out.later hb)
          have Y3 := hid (Y2.out.later hb)
          have OX3 := hid (OX2.out.below hb)
          have RX3 := hid (RX2.out.below hb)
          have OY3 := hid (OY2.out.below hb)
          have RY3 := hid (RY2.out.below hb)
          clear x0 x1 x2 x3 y0 y1 y2 y3
          clear hb
          have x0 := X3.out.cell 0
          have x1 := X3.out.cell 1
          have x2 := X3.out.cell 2
          have x3 := X3.out.cell 3
          have y0 := Y3.out.cell 0
          have y1 := Y3.out.cell 1
          have y2 := Y3.out.cell 2
          have y3 := Y3.out.cell 3
          simp only [List.getElem?_toArray, List.getElem?_cons_zero, List.getElem?_cons_succ] at x0 x1 x2 x3 y0 y1 y2 y3
          go_wp2_with fail
          go_ret
          exact ⟨rfl, HB3.out⟩
        · by_cases q3 : 100 < p.length
          · go_wp2_with fail
            refine (fixed6_any _).mono ?_
            rintro e w3 ⟨rfl, hb⟩
            have HB3 := hid (HB2.out.trans (hb.mono HB2.out.size))
            have X3 := hid (X2.out.later hb)
            have Y3 := hid (Y2.out.later hb)
            have OX3 := hid (OX2.out.below hb)
            have RX3 := hid (RX2.out.below hb)
            have OY3 := hid (OY2.out.below hb)
            have RY3 := hid (RY2.out.below hb)
            clear x0 x1 x2 x3 y0 y1 y2 y3
            clear hb
            have x0 := X3.out.cell 0
            have x1 := X3.out.cell 1
            have x2 := X3.out.cell 2
            have x3 := X3.out.cell 3
            have y0 := Y3.out.cell 0
            have y1 := Y3.out.cell 1
            have y2 := Y3.out.cell 2
            have y3 := Y3.out.cell 3
            simp only [List.getElem?_toArray, List.getElem?_cons_zero, List.getElem?_cons_succ] at x0 x1 x2 x3 y0 y1 y2 y3
            go_wp2_with fail
            go_ret
            exact ⟨rfl, HB3.out⟩
          · by_cases q4 : 100 < q.length
            · go_wp2_with fail
              refine (fixed6_any _).mono ?_
              rintro e w3 ⟨rfl, hb⟩
              have HB3 := hid (HB2.out.trans (hb.mono HB2.out.size))
              have X3 := hid (X2.out.later hb)
              have Y3 := hid (Y2.out.later hb)
              have OX3 := hid (OX2.out.below hb)
              have RX3 := hid (RX2.out.below hb)
              have OY3 := hid (OY2.out.below hb)
              have RY3 := hid (RY2.out.below hb)
              clear x0 x1 x2 x3 y0 y1 y2 y3
              clear hb
              have x0 := X3.out.cell 0
              have x1 := X3.out.cell 1
              have x2 := X3.out.cell 2
              have x3 := X3.out.cell 3
              have y0 := Y3.out.cell 0
              have y1 := Y3.out.cell 1
              have y2 := Y3.out.cell 2
              have y3 := Y3.out.cell 3
              simp only [List.getElem?_toArray, List.getElem?_cons_zero, List.getElem?_cons_succ] at x0 x1 x2 x3 y0 y1 y2 y3
              go_wp2_with fail
              go_ret
              exact ⟨rfl, HB3.out⟩
            · have HW2 := hid (Below.refl w2.heap.size w2)
              go_wp2_with fail
              refine wp_region_held_drew (S := (fun w' => w'.cell? ⟨w.heap.size, 0, none⟩ = some (.slice A a.objs.length c) ∧ w'.cell? ⟨w.heap.size, 1, none⟩ = some (.int .i64 a.cap) ∧ w'.cell? ⟨w.heap.size, 2, none⟩ = some (.int .i64 a.last) ∧ w'.cell? ⟨w.heap.size, 3, none⟩ = some (.slice P p.length dp) ∧ w'.cell? ⟨w.heap.size + 1, 0, none⟩ = some (.slice B b.objs.length d) ∧ w'.cell? ⟨w.heap.size + 1, 1, none⟩ = some (.int .i64 b.cap) ∧ w'.cell? ⟨w.heap.size + 1, 2, none⟩ = some (.int .i64 b.last) ∧ w'.cell? ⟨w.heap.size + 1, 3, none⟩ = some (.slice Q q.length dq))) (by kernel_rfl) ?_ (fun hH0 => ?_)
              · exact ⟨x0, x1, x2, x3, y0, y1, y2, y3⟩
              refine wpAnyH_ready (rs := [0]) (by kernel_rfl) (by simp) ?_
              refine AllReadyH.cons (i := 0) (o := { dst := some 42, op := Go.Op.call { callee := Go.Callee.value (Go.Operand.func 37), args := #[], argTypes := #[] }, type := 4, pos := "law.go:43", after := #[], guard := none }) rfl (fun K hK => ?_) AllReadyH.nil
              go_simp
              go_at_call 37
              refine (fixed6_any _).mono ?_
              rintro e v1 ⟨rfl, hb⟩
              have HV1 := hid (then_b (Below.refl _ w2).drew hb)
              refine hK.out _ _ ?_ (fun hH1 => ?_)
              · exact ⟨cell_later hb hH0.1, cell_later hb hH0.2.1, cell_later hb hH0.2.2.1, cell_later hb hH0.2.2.2.1, cell_later hb hH0.2.2.2.2.1, cell_later hb hH0.2.2.2.2.2.1, cell_later hb hH0.2.2.2.2.2.2.1, cell_later hb hH0.2.2.2.2.2.2.2⟩
              clear hK K
              try simp only [Act.put, List.setIfInBounds_toArray, List.set_cons_zero, List.set_cons_succ]
              clear hb
              refine wpAnyH_take (i := 1) (oi := { dst := some 43, op := Go.Op.move (Go.Operand.tmp 42), type := 4, pos := "law.go:43", after := #[{ on := 0, ground := Go.Ground.data }, { on := 0, ground := Go.Ground.chain }], guard := none }) (v := ?vv1) rfl (by kernel_rfl) (by kernel_rfl) (by kernel_rfl) (fun _ _ _ h => h) (Or.inl ⟨by rfl, ?hy1⟩) (by assumption) ?rr1
              case hy1 => intro w hSw; (try dsimp only at hSw); go_simp; all_goals with_reducible rfl
              try simp only [Act.put, List.setIfInBounds_toArray, List.set_cons_zero, List.set_cons_succ]
              refine wpAnyH_take (i := 2) (oi := { dst := some 44, op := Go.Op.fieldAddr 53 (Go.Operand.tmp 2) 0, type := 0, pos := "law.go:43", after := #[{ on := 1, ground := Go.Ground.guard }], guard := some (1, true) }) (v := ?vv2) rfl (by kernel_rfl) (by kernel_rfl) (by kernel_rfl) (fun _ _ _ h => h) (Or.inl ⟨by rfl, ?hy2⟩) (by assumption) ?rr2
              case hy2 => intro w hSw; (try dsimp only at hSw); go_simp; all_goals with_reducible rfl
              try simp only [Act.put, List.setIfInBounds_toArray, List.set_cons_zero, List.set_cons_succ]
              refine wpAnyH_take (i := 3) (oi := { dst := some 45, op := Go.Op.load 24 (Go.Operand.tmp 44), type := 24, pos := "law.go:43", after := #[{ on := 2, ground := Go.Ground.data }, { on := 1, ground := Go.Ground.guard }], guard := some (1, true) }) (v := ?vv3) rfl (by kernel_rfl) (by kernel_rfl) (by kernel_rfl) (fun _ _ _ h => h) (Or.inl ⟨by rfl, ?hy3⟩) (by assumption) ?rr3
              case hy3 => intro w hSw; (try dsimp only at hSw); go_simp; all_goals with_reducible rfl
              try simp only [Act.put, List.setIfInBounds_toArray, List.set_cons_zero, List.set_cons_succ]
              refine wpAnyH_take (i := 4) (oi := { dst := some 46, op := Go.Op.fieldAddr 53 (Go.Operand.tmp 2) 1, type := 0, pos := "law.go:43", after := #[{ on := 1, ground := Go.Ground.guard }], guard := some (1, true) }) (v := ?vv4) rfl (by kernel_rfl) (by kernel_rfl) (by kernel_rfl) (fun _ _ _ h => h) (Or.inl ⟨by rfl, ?hy4⟩) (by assumption) ?rr4
              case hy4 => intro w hSw; (try dsimp only at hSw); go_simp; all_goals with_reducible rfl
              try simp only [Act.put, List.setIfInBounds_toArray, List.set_cons_zero, List.set_cons_succ]
              refine wpAnyH_take (i := 5) (oi := { dst := some 47, op := Go.Op.load 44 (Go.Operand.tmp 46), type := 44, pos := "law.go:43", after := #[{ on := 4, ground := Go.Ground.data }, { on := 1, ground := Go.Ground.guard }], guard := some (1, true) }) (v := ?vv5) rfl (by kernel_rfl) (by kernel_rfl) (by kernel_rfl) (fun _ _ _ h => h) (Or.inl ⟨by rfl, ?hy5⟩) (by assumption) ?rr5
              case hy5 => intro w hSw; (try dsimp only at hSw); go_simp; all_goals with_reducible rfl
              try simp only [Act.put, List.setIfInBounds_toArray, List.set_cons_zero, List.set_cons_succ]
              refine wpAnyH_take (i := 6) (oi := { dst := some 48, op := Go.Op.fieldAddr 53 (Go.Operand.tmp 3) 0, type := 0, pos := "law.go:43", after := #[{ on := 1, ground := Go.Ground.guard }], guard := some (1, true) }) (v := ?vv6) rfl (by kernel_rfl) (by kernel_rfl) (by kernel_rfl) (fun _ _ _ h => h) (Or.inl ⟨by rfl, ?hy6⟩) (by assumption) ?rr6
              case hy6 => intro w hSw; (try dsimp only at hSw); go_simp; all_goals with_reducible rfl
              try simp only [Act.put, List.setIfInBounds_toArray, List.set_cons_zero, List.set_cons_succ]
              refine wpAnyH_take (i := 7) (oi := { dst := some 49, op := Go.Op.load 24 (Go.Operand.tmp 48), type := 24, pos := "law.go:43", after := #[{ on := 6, ground := Go.Ground.data }, { on := 1, ground := Go.Ground.guard }], guard := some (1, true) }) (v := ?vv7) rfl (by kernel_rfl) (by kernel_rfl) (by kernel_rfl) (fun _ _ _ h => h) (Or.inl ⟨by rfl, ?hy7⟩) (by assumption) ?rr7
              case hy7 => intro w hSw; (try dsimp only at hSw); go_simp; all_goals with_reducible rfl
              try simp only [Act.put, List.setIfInBounds_toArray, List.set_cons_zero, List.set_cons_succ]
              refine wpAnyH_take (i := 8) (oi := { dst := some 50, op := Go.Op.fieldAddr 53 (Go.Operand.tmp 3) 1, type := 0, pos := "law.go:43", after := #[{ on := 1, ground := Go.Ground.guard }], guard := some (1, true) }) (v := ?vv8) rfl (by kernel_rfl) (by kernel_rfl) (by kernel_rfl) (fun _ _ _ h => h) (Or.inl ⟨by rfl, ?hy8⟩) (by assumption) ?rr8
              case hy8 => intro w hSw; (try dsimp only at hSw); go_simp; all_goals with_reducible rfl
              try simp only [Act.put, List.setIfInBounds_toArray, List.set_cons_zero, List.set_cons_succ]
              refine wpAnyH_take (i := 9) (oi := { dst := some 51, op := Go.Op.load 44 (Go.Operand.tmp 50), type := 44, pos := "law.go:43", after := #[{ on := 8, ground := Go.Ground.data }, { on := 1, ground := Go.Ground.guard }], guard := some (1, true) }) (v := ?vv9) rfl (by kernel_rfl) (by kernel_rfl) (by kernel_rfl) (fun _ _ _ h => h) (Or.inl ⟨by rfl, ?hy9⟩) (by assumption) ?rr9
              case hy9 => intro w hSw; (try dsimp only at hSw); go_simp; all_goals with_reducible rfl
              try simp only [Act.put, List.setIfInBounds_toArray, List.set_cons_zero, List.set_cons_succ]
              refine wpAnyH_take (i := 11) (oi := { dst := some 53, op := Go.Op.fieldAddr 53 (Go.Operand.tmp 2) 0, type := 0, pos := "law.go:43", after := #[{ on := 1, ground := Go.Ground.guard }], guard := some (1, true) }) (v := ?vv10) rfl (by kernel_rfl) (by kernel_rfl) (by kernel_rfl) (fun _ _ _ h => h) (Or.inl ⟨by rfl, ?hy10⟩) (by assumption) ?rr10
              case hy10 => intro w hSw; (try dsimp only at hSw); go_simp; all_goals with_reducible rfl
              try simp only [Act.put, List.setIfInBounds_toArray, List.set_cons_zero, List.set_cons_succ]
              refine wpAnyH_take (i := 12) (oi := { dst := some 54, op := Go.Op.load 24 (Go.Operand.tmp 53), type := 24, pos := "law.go:43", after := #[{ on := 11, ground := Go.Ground.data }, { on := 1, ground := Go.Ground.guard }], guard := some (1, true) }) (v := ?vv11) rfl (by kernel_rfl) (by kernel_rfl) (by kernel_rfl) (fun _ _ _ h => h) (Or.inl ⟨by rfl, ?hy11⟩) (by assumption) ?rr11
              case hy11 => intro w hSw; (try dsimp only at hSw); go_simp; all_goals with_reducible rfl
              try simp only [Act.put, List.setIfInBounds_toArray, List.set_cons_zero, List.set_cons_succ]
              refine wpAnyH_take (i := 13) (oi := { dst := some 55, op := Go.Op.fieldAddr 53 (Go.Operand.tmp 2) 1, type := 0, pos := "law.go:43", after := #[{ on := 1, ground := Go.Ground.guard }], guard := some (1, true) }) (v := ?vv12) rfl (by kernel_rfl) (by kernel_rfl) (by kernel_rfl) (fun _ _ _ h => h) (Or.inl ⟨by rfl, ?hy12⟩) (by assumption) ?rr12
              case hy12 => intro w hSw; (try dsimp only at hSw); go_simp; all_goals with_reducible rfl
              try simp only [Act.put, List.setIfInBounds_toArray, List.set_cons_zero, List.set_cons_succ]
              refine wpAnyH_take (i := 14) (oi := { dst := some 56, op := Go.Op.load 44 (Go.Operand.tmp 55), type := 44, pos := "law.go:43", after := #[{ on := 13, ground := Go.Ground.data }, { on := 1, ground := Go.Ground.guard }], guard := some (1, true) }) (v := ?vv13) rfl (by kernel_rfl) (by kernel_rfl) (by kernel_rfl) (fun _ _ _ h => h) (Or.inl ⟨by rfl, ?hy13⟩) (by assumption) ?rr13
              case hy13 => intro w hSw; (try dsimp only at hSw); go_simp; all_goals with_reducible rfl
              try simp only [Act.put, List.setIfInBounds_toArray, List.set_cons_zero, List.set_cons_succ]
              refine wpAnyH_take (i := 15) (oi := { dst := some 57, op := Go.Op.fieldAddr 53 (Go.Operand.tmp 3) 0, type := 0, pos := "law.go:43", after := #[{ on := 1, ground := Go.Ground.guard }], guard := some (1, true) }) (v := ?vv14) rfl (by kernel_rfl) (by kernel_rfl) (by kernel_rfl) (fun _ _ _ h => h) (Or.inl ⟨by rfl, ?hy14⟩) (by assumption) ?rr14
              case hy14 => intro w hSw; (try dsimp only at hSw); go_simp; all_goals with_reducible rfl
              try simp only [Act.put, List.setIfInBounds_toArray, List.set_cons_zero, List.set_cons_succ]
              refine wpAnyH_take (i := 16) (oi := { dst := some 58, op := Go.Op.load 24 (Go.Operand.tmp 57), type := 24, pos := "law.go:43", after := #[{ on := 15, ground := Go.Ground.data }, { on := 1, ground := Go.Ground.guard }], guard := some (1, true) }) (v := ?vv15) rfl (by kernel_rfl) (by kernel_rfl) (by kernel_rfl) (fun _ _ _ h => h) (Or.inl ⟨by rfl, ?hy15⟩) (by assumption) ?rr15
              case hy15 => intro w hSw; (try dsimp only at hSw); go_simp; all_goals with_reducible rfl
              try simp only [Act.put, List.setIfInBounds_toArray, List.set_cons_zero, List.set_cons_succ]
              refine wpAnyH_take (i := 17) (oi := { dst := some 59, op := Go.Op.fieldAddr 53 (Go.Operand.tmp 3) 1, type := 0, pos := "law.go:43", after := #[{ on := 1, ground := Go.Ground.guard }], guard := some (1, true) }) (v := ?vv16) rfl (by kernel_rfl) (by kernel_rfl) (by kernel_rfl) (fun _ _ _ h => h) (Or.inl ⟨by rfl, ?hy16⟩) (by assumption) ?rr16
              case hy16 => intro w hSw; (try dsimp only at hSw); go_simp; all_goals with_reducible rfl
              try simp only [Act.put, List.setIfInBounds_toArray, List.set_cons_zero, List.set_cons_succ]
              refine wpAnyH_take (i := 18) (oi := { dst := some 60, op := Go.Op.load 44 (Go.Operand.tmp 59), type := 44, pos := "law.go:43", after := #[{ on := 17, ground := Go.Ground.data }, { on := 1, ground := Go.Ground.guard }], guard := some (1, true) }) (v := ?vv17) rfl (by kernel_rfl) (by kernel_rfl) (by kernel_rfl) (fun _ _ _ h => h) (Or.inl ⟨by rfl, ?hy17⟩) (by assumption) ?rr17
              case hy17 => intro w hSw; (try dsimp only at hSw); go_simp; all_goals with_reducible rfl
              try simp only [Act.put, List.setIfInBounds_toArray, List.set_cons_zero, List.set_cons_succ]
              refine wpAnyH_ready (rs := [10]) (by kernel_rfl) (by simp) ?_
              refine AllReadyH.cons (i := 10) (o := { dst := some 52, op := Go.Op.call { callee := Go.Callee.value (Go.Operand.func 41), args := #[Go.Operand.tmp 45, Go.Operand.tmp 47, Go.Operand.tmp 49, Go.Operand.tmp 51], argTypes := #[24, 44, 24, 44] }, type := 4, pos := "law.go:43", after := #[{ on := 3, ground := Go.Ground.data }, { on := 5, ground := Go.Ground.data }, { on := 7, ground := Go.Ground.data }, { on := 9, ground := Go.Ground.data }, { on := 1, ground := Go.Ground.chain }, { on := 1, ground := Go.Ground.guard }], guard := some (1, true) }) rfl (fun K hK => ?_) AllReadyH.nil
              go_simp
              go_at_call 41
              refine (csame_any a b p q A B P Q c d dp dq _ (OX2.out.below HV1.out) HFX.out (RX2.out.below HV1.out) (by omega) (OY2.out.below HV1.out) HFY.out (RY2.out.below HV1.out) (by omega)).mono ?_
              rintro e v2 ⟨rfl, hb⟩
              have HV2 := hid (then_b HV1.out hb)
              refine hK.out _ _ ?_ (fun hH2 => ?_)
              · exact ⟨cell_later hb hH1.1, cell_later hb hH1.2.1, cell_later hb hH1.2.2.1, cell_later hb hH1.2.2.2.1, cell_later hb hH1.2.2.2.2.1, cell_later hb hH1.2.2.2.2.2.1, cell_later hb hH1.2.2.2.2.2.2.1, cell_later hb hH1.2.2.2.2.2.2.2⟩
              clear hK K
              try simp only [Act.put, List.setIfInBounds_toArray, List.set_cons_zero, List.set_cons_succ]
              clear hb
              refine wpAnyH_ready (rs := [19]) (by kernel_rfl) (by simp) ?_
              refine AllReadyH.cons (i := 19) (o := { dst := some 61, op := Go.Op.call { callee := Go.Callee.value (Go.Operand.func 42), args := #[Go.Operand.tmp 54, Go.Operand.tmp 56, Go.Operand.tmp 58, Go.Operand.tmp 60], argTypes := #[24, 44, 24, 44] }, type := 4, pos := "law.go:43", after := #[{ on := 12, ground := Go.Ground.data }, { on := 14, ground := Go.Ground.data }, { on := 16, ground := Go.Ground.data }, { on := 18, ground := Go.Ground.data }, { on := 10, ground := Go.Ground.chain }, { on := 1, ground := Go.Ground.guard }], guard := some (1, true) }) rfl (fun K hK => ?_) AllReadyH.nil
              go_simp
              go_at_call 42
              refine (rsame6_any a b p q A B P Q c d dp dq _ (OX2.out.below HV2.out) HFX.out (RX2.out.below HV2.out) (by omega) (OY2.out.below HV2.out) HFY.out (RY2.out.below HV2.out) (by omega)).mono ?_
              rintro e v3 ⟨rfl, hb⟩
              have HV3 := hid (then_b HV2.out hb)
              refine hK.out _ _ ?_ (fun hH3 => ?_)
              · exact ⟨cell_later hb hH2.1, cell_later hb hH2.2.1, cell_later hb hH2.2.2.1, cell_later hb hH2.2.2.2.1, cell_later hb hH2.2.2.2.2.1, cell_later hb hH2.2.2.2.2.2.1, cell_later hb hH2.2.2.2.2.2.2.1, cell_later hb hH2.2.2.2.2.2.2.2⟩
              clear hK K
              try simp only [Act.put, List.setIfInBounds_toArray, List.set_cons_zero, List.set_cons_succ]
              clear hb
              refine wpAnyH_take (i := 20) (oi := { dst := some 62, op := Go.Op.binOp Go.BinOp.eql 4 (Go.Operand.tmp 52) (Go.Operand.tmp 61) 4, type := 4, pos := "law.go:43", after := #[{ on := 10, ground := Go.Ground.data }, { on := 19, ground := Go.Ground.data }, { on := 1, ground := Go.Ground.guard }], guard := some (1, true) }) (v := ?vv18) rfl (by kernel_rfl) (by kernel_rfl) (by kernel_rfl) (fun _ _ _ h => h) (Or.inl ⟨by rfl, ?hy18⟩) (by assumption) ?rr18
              case hy18 => intro w hSw; (try dsimp only at hSw); go_simp; all_goals with_reducible rfl
              try simp only [Act.put, List.setIfInBounds_toArray, List.set_cons_zero, List.set_cons_succ]
              refine wpAnyH_take (i := 21) (oi := { dst := some 63, op := Go.Op.pick (Go.Operand.tmp 43) (Go.Operand.tmp 62) (Go.Operand.const (Go.Value.bool false)), type := 4, pos := "law.go:43", after := #[{ on := 1, ground := Go.Ground.data }, { on := 20, ground := Go.Ground.data }], guard := none }) (v := ?vv19) rfl (by kernel_rfl) (by kernel_rfl) (by kernel_rfl) (fun _ _ _ h => h) (Or.inl ⟨by rfl, ?hy19⟩) (by assumption) ?rr19
              case hy19 => intro w hSw; (try dsimp only at hSw); go_simp; all_goals with_reducible rfl
              try simp only [Act.put, List.setIfInBounds_toArray, List.set_cons_zero, List.set_cons_succ]
              refine wpAnyH_take (i := 22) (oi := { dst := some 4, op := Go.Op.assign (Go.Operand.tmp 63), type := 4, pos := "law.go:43", after := #[{ on := 21, ground := Go.Ground.data }, { on := 19, ground := Go.Ground.chain }, { on := 0, ground := Go.Ground.phase }, { on := 1, ground := Go.Ground.phase }, { on := 2, ground := Go.Ground.phase }, { on := 3, ground := Go.Ground.phase }, { on := 4, ground := Go.Ground.phase }, { on := 5, ground := Go.Ground.phase }, { on := 6, ground := Go.Ground.phase }, { on := 7, ground := Go.Ground.phase }, { on := 8, ground := Go.Ground.phase }, { on := 9, ground := Go.Ground.phase }, { on := 10, ground := Go.Ground.phase }, { on := 11, ground := Go.Ground.phase }, { on := 12, ground := Go.Ground.phase }, { on := 13, ground := Go.Ground.phase }, { on := 14, ground := Go.Ground.phase }, { on := 15, ground := Go.Ground.phase }, { on := 16, ground := Go.Ground.phase }, { on := 17, ground := Go.Ground.phase }, { on := 18, ground := Go.Ground.phase }, { on := 19, ground := Go.Ground.phase }, { on := 20, ground := Go.Ground.phase }, { on := 21, ground := Go.Ground.phase }], guard := none }) (v := ?vv20) rfl (by kernel_rfl) (by kernel_rfl) (by kernel_rfl) (fun _ _ _ h => h) (Or.inl ⟨by rfl, ?hy20⟩) (by assumption) ?rr20
              case hy20 => intro w hSw; (try dsimp only at hSw); go_simp; all_goals with_reducible rfl
              try simp only [Act.put, List.setIfInBounds_toArray, List.set_cons_zero, List.set_cons_succ]
              refine wpAnyH_done (by kernel_rfl) ?_ _
              go_wp2_with fail
              go_ret
              exact ⟨by simp, then_b HB2.out HV3.out⟩
end Go.Proofs.Ytododpdkbdndoaa
