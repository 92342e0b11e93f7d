/- LookUnder walked: whatever heap, values and selector, it answers true. -/
import Derived.Test.YtfdjghllnbiffaaWF9
import Derived.Test.YtfdjghllnbiffaaN
namespace Go.Proofs.Ytfdjghllnbiffaa
open Go.RowKit
set_option maxRecDepth 100000
set_option maxHeartbeats 1500000 in
theorem under9_any (h : Hp) (p0 p1 p2 s : Int) (A : Option Addr) (c : Nat) (w : World) (hs : ObsR w A h.objs) (fit : h.Fit) :
    Calls Try.prog 10 #[.agg #[.slice A h.objs.length c, .int .i64 h.cap, .int .i64 h.last], .agg #[.int .i64 p0, .int .i64 p1, .int .i64 p2], .int .i64 s] w fun e w' => e = .returned (.bool true) ∧ Below w.heap.size w w' := by
  obtain ⟨w0, hw0⟩ : ∃ u, u = (w.alloc (.cells #[Value.slice A h.objs.length c, Value.int .i64 h.cap, Value.int .i64 h.last] 24)).alloc (.cells #[.int .i64 p0, .int .i64 p1, .int .i64 p2] 50) := ⟨_, rfl⟩
  have HB0 : Hid (Below w.heap.size w w0) := by show Below _ _ _; rw [hw0]; exact below_alloc2 w (.cells #[Value.slice A h.objs.length c, Value.int .i64 h.cap, Value.int .i64 h.last] 24) (.cells #[.int .i64 p0, .int .i64 p1, .int .i64 p2] 50)
  have X0 : Hid (Lies w0 w.heap.size 24 #[Value.slice A h.objs.length c, Value.int .i64 h.cap, Value.int .i64 h.last]) := by show Lies _ _ _ _; rw [hw0]; exact (Lies.new w 24 _).alloc _
  have V0 : Hid (Lies w0 (w.heap.size + 1) 50 #[.int .i64 p0, .int .i64 p1, .int .i64 p2]) := by
    show Lies _ _ _ _
    rw [hw0]
    have := Lies.new (w.alloc (.cells #[Value.slice A h.objs.length c, Value.int .i64 h.cap, Value.int .i64 h.last] 24)) 50 #[.int .i64 p0, .int .i64 p1, .int .i64 p2]
    simpa using this
  have O0 := hid (hs.below HB0.out)
  have HF := hid fit
  clear hs fit
  go_enter Try.func10, Try.ntmps10
  go_upto_region 1 with fail
  rw [← hw0]
  clear hw0
  have x0 := X0.out.cell 0
  have x1 := X0.out.cell 1
  have x2 := X0.out.cell 2
  have v0 := V0.out.cell 0
  have v1 := V0.out.cell 1
  have v2 := V0.out.cell 2
  simp only [List.getElem?_toArray, List.getElem?_cons_zero, List.getElem?_cons_succ] at x0 x1 x2 v0 v1 v2
  go_wp2_with fail
  refine (fixed9_any _).mono ?_
  rintro e w1 ⟨rfl, hb⟩
  have HB1 := hid (HB0.out.trans (hb.mono HB0.out.size))
  have X1 := hid (X0.out.later hb)
  have V1 := hid (V0.out.later hb)
  have O1 := hid (O0.out.below hb)
  clear x0 x1 x2 v0 v1 v2
  clear hb
  have x0 := X1.out.cell 0
  have x1 := X1.out.cell 1
  have x2 := X1.out.cell 2
  have v0 := V1.out.cell 0
  have v1 := V1.out.cell 1
  have v2 := V1.out.cell 2
  simp only [List.getElem?_toArray, List.getElem?_cons_zero, List.getElem?_cons_succ] at x0 x1 x2 v0 v1 v2
  go_wp2_with fail
  refine (small_ok h A c _ O1.out HF.out).mono ?_
  rintro e w2 ⟨sm, rfl, hb⟩
  have HB2 := hid (HB1.out.trans (hb.mono HB1.out.size))
  have X2 := hid (X1.out.later hb)
  have V2 := hid (V1.out.later hb)
  have O2 := hid (O1.out.below hb)
  clear x0 x1 x2 v0 v1 v2
  clear hb
  have x0 := X2.out.cell 0
  have x1 := X2.out.cell 1
  have x2 := X2.out.cell 2
  have v0 := V2.out.cell 0
  have v1 := V2.out.cell 1
  have v2 := V2.out.cell 2
  simp only [List.getElem?_toArray, List.getElem?_cons_zero, List.getElem?_cons_succ] at x0 x1 x2 v0 v1 v2
  cases sm
  · go_wp2_with fail
    refine (fixed9_any _).mono ?_
    rintro e w3 ⟨rfl, hb⟩
    have HB3 := hid (HB2.out.trans (hb.mono HB2.out.size))
    have X3 := hid (X2.out.later hb)
    have V3 := hid (V2.out.later hb)
    have O3 := hid (O2.out.below hb)
    clear x0 x1 x2 v0 v1 v2
    clear hb
    have x0 := X3.out.cell 0
    have x1 := X3.out.cell 1
    have x2 := X3.out.cell 2
    have v0 := V3.out.cell 0
    have v1 := V3.out.cell 1
    have v2 := V3.out.cell 2
    simp only [List.getElem?_toArray, List.getElem?_cons_zero, List.getElem?_cons_succ] at x0 x1 x2 v0 v1 v2
    go_wp2_with fail
    go_ret
    exact ⟨rfl, HB3.out⟩
  · go_wp2_with fail
    refine (rmay_any h A c _ O2.out HF.out).mono ?_
    rintro e w3 ⟨rfl, hb⟩
    have HB3 := hid (HB2.out.trans (hb.mono HB2.out.size))
    have X3 := hid (X2.out.later hb)
    have V3 := hid (V2.out.later hb)
    have O3 := hid (O2.out.below hb)
    clear x0 x1 x2 v0 v1 v2
    clear hb
    have x0 := X3.out.cell 0
    have x1 := X3.out.cell 1
    have x2 := X3.out.cell 2
    have v0 := V3.out.cell 0
    have v1 := V3.out.cell 1
    have v2 := V3.out.cell 2
    simp only [List.getElem?_toArray, List.getElem?_cons_zero, List.getElem?_cons_succ] at x0 x1 x2 v0 v1 v2
    cases hm : mayB h
    · go_wp2_with fail
      refine (fixed9_any _).mono ?_
      rintro e w4 ⟨rfl, hb⟩
      have HB4 := hid (HB3.out.trans (hb.mono HB3.out.size))
      have X4 := hid (X3.out.later hb)
      have V4 := hid (V3.out.later hb)
      have O4 := hid (O3.out.below hb)
      clear x0 x1 x2 v0 v1 v2
      clear hb
      have x0 := X4.out.cell 0
      have x1 := X4.out.cell 1
      have x2 := X4.out.cell 2
      have v0 := V4.out.cell 0
      have v1 := V4.out.cell 1
      have v2 := V4.out.cell 2
      simp only [List.getElem?_toArray, List.getElem?_cons_zero, List.getElem?_cons_succ] at x0 x1 x2 v0 v1 v2
      go_wp2_with fail
      go_ret
      exact ⟨rfl, HB4.out⟩
    · have HM := hid hm
      clear hm
      by_cases q1 : 30 < h.objs.length
      · go_wp2_with fail
        refine (fixed9_any _).mono ?_
        rintro e w4 ⟨rfl, hb⟩
        have HB4 := hid (HB3.out.trans (hb.mono HB3.out.size))
        have X4 := hid (X3.out.later hb)
        have V4 := hid (V3.out.later hb)
        have O4 := hid (O3.out.below hb)
        clear x0 x1 x2 v0 v1 v2
        clear hb
        have x0 := X4.out.cell 0
        have x1 := X4.out.cell 1
        have x2 := X4.out.cell 2
        have v0 := V4.out.cell 0
        have v1 := V4.out.cell 1
        have v2 := V4.out.cell 2
        simp only [List.getElem?_toArray, List.getElem?_cons_zero, List.getElem?_cons_succ] at x0 x1 x2 v0 v1 v2
        go_wp2_with fail
        go_ret
        exact ⟨rfl, HB4.out⟩
      · have hn30 : h.objs.length ≤ 30 := by omega
        have HN := hid hn30
        have us := un9_self h p0
        have US := hid us
        clear hn30 us
        go_upto_region 3 with fail
        go_quiet (fail)
        go_upto_region 4 with fail
        generalize hW : World.drewN w3 _ = w4
        have hb : Below w3.heap.size w3 w4 := by rw [← hW]; exact below_drewN _ _
        have HB4 := hid (HB3.out.trans (hb.mono HB3.out.size))
        have X4 := hid (X3.out.later hb)
        have V4 := hid (V3.out.later hb)
        have O4 := hid (O3.out.below hb)
        clear hb hW
        clear x0 x1 x2 v0 v1 v2
        have x0 := X4.out.cell 0
        have x1 := X4.out.cell 1
        have x2 := X4.out.cell 2
        have v0 := V4.out.cell 0
        have v1 := V4.out.cell 1
        have v2 := V4.out.cell 2
        simp only [List.getElem?_toArray, List.getElem?_cons_zero, List.getElem?_cons_succ] at x0 x1 x2 v0 v1 v2
        obtain ⟨cl, hcl⟩ : ∃ b, b = clB9 h p0 := ⟨_, rfl⟩
        rw [← hcl] at US
        have HCL := hid hcl
        clear hcl
        have bb : (cl != cl) = false := by cases cl <;> rfl
        have bb2 : (!(cl == cl)) = false := by cases cl <;> rfl
        cases u1 : un9 h p1 64 p0
        · have U1 := hid u1
          clear u1
          refine wp_region_held_drew (S := (fun w' => w'.cell? ⟨w.heap.size, 0, none⟩ = some (.slice A h.objs.length c) ∧ w'.cell? ⟨w.heap.size, 1, none⟩ = some (.int .i64 h.cap) ∧ w'.cell? ⟨w.heap.size, 2, none⟩ = some (.int .i64 h.last))) (by kernel_rfl) ?_ (fun hH0 => ?_)
          · exact ⟨x0, x1, x2⟩
          refine wpAnyH_take (i := 0) (oi := { dst := some 41, op := Go.Op.load 24 (Go.Operand.tmp 3), type := 24, pos := "law.go:81", after := #[], guard := none }) (v := ?vv1) rfl (by kernel_rfl) (by kernel_rfl) (by kernel_rfl) (fun _ _ _ h => h) (Or.inl ⟨by rfl, ?hy1⟩) (by assumption) ?rr1
          case hy1 => intro w hSw; (try dsimp only at hSw); go_simp; all_goals with_reducible rfl
          try simp only [Act.put, List.setIfInBounds_toArray, List.set_cons_zero, List.set_cons_succ]
          refine wpAnyH_take (i := 1) (oi := { dst := some 42, op := Go.Op.move (Go.Operand.tmp 7), type := 3, pos := "law.go:81", after := #[], guard := none }) (v := ?vv2) rfl (by kernel_rfl) (by kernel_rfl) (by kernel_rfl) (fun _ _ _ h => h) (Or.inl ⟨by rfl, ?hy2⟩) (by assumption) ?rr2
          case hy2 => intro w hSw; (try dsimp only at hSw); go_simp; all_goals with_reducible rfl
          try simp only [Act.put, List.setIfInBounds_toArray, List.set_cons_zero, List.set_cons_succ]
          refine wpAnyH_take (i := 2) (oi := { dst := some 43, op := Go.Op.move (Go.Operand.tmp 7), type := 3, pos := "law.go:81", after := #[], guard := none }) (v := ?vv3) rfl (by kernel_rfl) (by kernel_rfl) (by kernel_rfl) (fun _ _ _ h => h) (Or.inl ⟨by rfl, ?hy3⟩) (by assumption) ?rr3
          case hy3 => intro w hSw; (try dsimp only at hSw); go_simp; all_goals with_reducible rfl
          try simp only [Act.put, List.setIfInBounds_toArray, List.set_cons_zero, List.set_cons_succ]
          refine wpAnyH_take (i := 4) (oi := { dst := some 45, op := Go.Op.load 24 (Go.Operand.tmp 3), type := 24, pos := "law.go:81", after := #[], guard := none }) (v := ?vv4) rfl (by kernel_rfl) (by kernel_rfl) (by kernel_rfl) (fun _ _ _ h => h) (Or.inl ⟨by rfl, ?hy4⟩) (by assumption) ?rr4
          case hy4 => intro w hSw; (try dsimp only at hSw); go_simp; all_goals with_reducible rfl
          try simp only [Act.put, List.setIfInBounds_toArray, List.set_cons_zero, List.set_cons_succ]
          refine wpAnyH_take (i := 5) (oi := { dst := some 46, op := Go.Op.move (Go.Operand.tmp 7), type := 3, pos := "law.go:81", after := #[], guard := none }) (v := ?vv5) rfl (by kernel_rfl) (by kernel_rfl) (by kernel_rfl) (fun _ _ _ h => h) (Or.inl ⟨by rfl, ?hy5⟩) (by assumption) ?rr5
          case hy5 => intro w hSw; (try dsimp only at hSw); go_simp; all_goals with_reducible rfl
          try simp only [Act.put, List.setIfInBounds_toArray, List.set_cons_zero, List.set_cons_succ]
          refine wpAnyH_ready (rs := [3]) (by kernel_rfl) (by simp) ?_
          refine AllReadyH.cons (i := 3) (o := { dst := some 44, op := Go.Op.call { callee := Go.Callee.value (Go.Operand.func 36), args := #[Go.Operand.tmp 41, Go.Operand.tmp 42, Go.Operand.tmp 43], argTypes := #[24, 3, 3] }, type := 4, pos := "law.go:81", after := #[{ on := 0, ground := Go.Ground.data }, { on := 1, ground := Go.Ground.data }, { on := 2, ground := Go.Ground.data }], guard := none }) rfl (fun K hK => ?_) AllReadyH.nil
          go_simp
          go_at_call 36
          refine (lunder_any9 h p0 p0 A c _ (O4.out.below (Below.refl w4.heap.size w4).drew) HF.out).mono ?_
          rintro e u1 ⟨rfl, hb⟩
          rw [US.out]
          have HV1 := hid (then_w (Below.refl w4.heap.size w4).drew hb)
          refine hK.out _ _ ?_ (fun hH1 => ?_)
          · exact ⟨cell_later hb hH0.1, cell_later hb hH0.2.1, cell_later hb hH0.2.2⟩
          clear hK K
          try simp only [Act.put, List.setIfInBounds_toArray, List.set_cons_zero, List.set_cons_succ]
          clear hb
          refine wpAnyH_ready (rs := [6]) (by kernel_rfl) (by simp) ?_
          refine AllReadyH.cons (i := 6) (o := { dst := some 47, op := Go.Op.call { callee := Go.Callee.value (Go.Operand.func 37), args := #[Go.Operand.tmp 45, Go.Operand.tmp 46], argTypes := #[24, 3] }, type := 4, pos := "law.go:81", after := #[{ on := 4, ground := Go.Ground.data }, { on := 5, ground := Go.Ground.data }, { on := 3, ground := Go.Ground.chain }], guard := none }) rfl (fun K hK => ?_) AllReadyH.nil
          go_simp
          go_at_call 37
          refine (rclass_any9 h p0 A c _ (O4.out.below HV1.out) HF.out).mono ?_
          rintro e u2 ⟨rfl, hb⟩
          rw [← HCL.out]
          have HV2 := hid (then_w HV1.out hb)
          refine hK.out _ _ ?_ (fun hH2 => ?_)
          · exact ⟨cell_later hb hH1.1, cell_later hb hH1.2.1, cell_later hb hH1.2.2⟩
          clear hK K
          try simp only [Act.put, List.setIfInBounds_toArray, List.set_cons_zero, List.set_cons_succ]
          clear hb
          refine wpAnyH_take (i := 7) (oi := { dst := some 48, op := Go.Op.binOp Go.BinOp.neq 4 (Go.Operand.tmp 44) (Go.Operand.tmp 47) 4, type := 4, pos := "law.go:81", after := #[{ on := 3, ground := Go.Ground.data }, { on := 6, ground := Go.Ground.data }], guard := none }) (v := ?vv6) rfl (by kernel_rfl) (by kernel_rfl) (by kernel_rfl) (fun _ _ _ h => h) (Or.inl ⟨by rfl, ?hy6⟩) (by assumption) ?rr6
          case hy6 => intro w hSw; (try dsimp only at hSw); go_simp; all_goals with_reducible rfl
          try simp only [Act.put, List.setIfInBounds_toArray, List.set_cons_zero, List.set_cons_succ]
          refine wpAnyH_take (i := 8) (oi := { dst := some 49, op := Go.Op.move (Go.Operand.tmp 48), type := 4, pos := "law.go:81", after := #[{ on := 7, ground := Go.Ground.data }, { on := 6, ground := Go.Ground.chain }], guard := none }) (v := ?vv7) rfl (by kernel_rfl) (by kernel_rfl) (by kernel_rfl) (fun _ _ _ h => h) (Or.inl ⟨by rfl, ?hy7⟩) (by assumption) ?rr7
          case hy7 => intro w hSw; (try dsimp only at hSw); go_simp; all_goals with_reducible rfl
          try simp only [Act.put, List.setIfInBounds_toArray, List.set_cons_zero, List.set_cons_succ]
          refine wpAnyH_take (i := 9) (oi := { dst := some 50, op := Go.Op.load 24 (Go.Operand.tmp 3), type := 24, pos := "law.go:81", after := #[{ on := 8, ground := Go.Ground.guard }], guard := some (8, false) }) (v := ?vv8) rfl (by kernel_rfl) (by kernel_rfl) (by kernel_rfl) (fun _ _ _ h => h) (Or.inl ⟨by rfl, ?hy8⟩) (by assumption) ?rr8
          case hy8 => intro w hSw; (try dsimp only at hSw); go_simp; all_goals with_reducible rfl
          try simp only [Act.put, List.setIfInBounds_toArray, List.set_cons_zero, List.set_cons_succ]
          refine wpAnyH_take (i := 10) (oi := { dst := some 51, op := Go.Op.move (Go.Operand.tmp 7), type := 3, pos := "law.go:81", after := #[{ on := 8, ground := Go.Ground.guard }], guard := some (8, false) }) (v := ?vv9) rfl (by kernel_rfl) (by kernel_rfl) (by kernel_rfl) (fun _ _ _ h => h) (Or.inl ⟨by rfl, ?hy9⟩) (by assumption) ?rr9
          case hy9 => intro w hSw; (try dsimp only at hSw); go_simp; all_goals with_reducible rfl
          try simp only [Act.put, List.setIfInBounds_toArray, List.set_cons_zero, List.set_cons_succ]
          refine wpAnyH_take (i := 11) (oi := { dst := some 52, op := Go.Op.move (Go.Operand.tmp 8), type := 3, pos := "law.go:81", after := #[{ on := 8, ground := Go.Ground.guard }], guard := some (8, false) }) (v := ?vv10) rfl (by kernel_rfl) (by kernel_rfl) (by kernel_rfl) (fun _ _ _ h => h) (Or.inl ⟨by rfl, ?hy10⟩) (by assumption) ?rr10
          case hy10 => intro w hSw; (try dsimp only at hSw); go_simp; all_goals with_reducible rfl
          try simp only [Act.put, List.setIfInBounds_toArray, List.set_cons_zero, List.set_cons_succ]
          refine wpAnyH_ready (rs := [12]) (by kernel_rfl) (by simp) ?_
          refine AllReadyH.cons (i := 12) (o := { dst := some 53, op := Go.Op.call { callee := Go.Callee.value (Go.Operand.func 36), args := #[Go.Operand.tmp 50, Go.Operand.tmp 51, Go.Operand.tmp 52], argTypes := #[24, 3, 3] }, type := 4, pos := "law.go:81", after := #[{ on := 9, ground := Go.Ground.data }, { on := 10, ground := Go.Ground.data }, { on := 11, ground := Go.Ground.data }, { on := 8, ground := Go.Ground.chain }, { on := 8, ground := Go.Ground.guard }], guard := some (8, false) }) rfl (fun K hK => ?_) AllReadyH.nil
          go_simp
          go_at_call 36
          refine (lunder_any9 h p0 p1 A c _ (O4.out.below HV2.out) HF.out).mono ?_
          rintro e u3 ⟨rfl, hb⟩
          rw [U1.out]
          have HV3 := hid (then_w HV2.out hb)
          refine hK.out _ _ ?_ (fun hH3 => ?_)
          · exact ⟨cell_later hb hH2.1, cell_later hb hH2.2.1, cell_later hb hH2.2.2⟩
          clear hK K
          try simp only [Act.put, List.setIfInBounds_toArray, List.set_cons_zero, List.set_cons_succ]
          clear hb
          refine wpAnyH_take (i := 13) (oi := { dst := some 54, op := Go.Op.move (Go.Operand.tmp 53), type := 4, pos := "law.go:81", after := #[{ on := 12, ground := Go.Ground.data }, { on := 12, ground := Go.Ground.chain }, { on := 8, ground := Go.Ground.guard }], guard := some (8, false) }) (v := ?vv11) rfl (by kernel_rfl) (by kernel_rfl) (by kernel_rfl) (fun _ _ _ h => h) (Or.inl ⟨by rfl, ?hy11⟩) (by assumption) ?rr11
          case hy11 => intro w hSw; (try dsimp only at hSw); go_simp; all_goals with_reducible rfl
          try simp only [Act.put, List.setIfInBounds_toArray, List.set_cons_zero, List.set_cons_succ]
          refine wpAnyH_take (i := 14) (oi := { dst := some 55, op := Go.Op.load 24 (Go.Operand.tmp 3), type := 24, pos := "law.go:81", after := #[{ on := 13, ground := Go.Ground.guard }], guard := some (13, true) }) (v := undef) rfl (by kernel_rfl) (by kernel_rfl) (by kernel_rfl) (fun _ _ _ h => h) (Or.inr ⟨by rfl, rfl⟩) (by assumption) ?_
          try simp only [Act.put, List.setIfInBounds_toArray, List.set_cons_zero, List.set_cons_succ]
          refine wpAnyH_take (i := 15) (oi := { dst := some 56, op := Go.Op.move (Go.Operand.tmp 8), type := 3, pos := "law.go:81", after := #[{ on := 13, ground := Go.Ground.guard }], guard := some (13, true) }) (v := undef) rfl (by kernel_rfl) (by kernel_rfl) (by kernel_rfl) (fun _ _ _ h => h) (Or.inr ⟨by rfl, rfl⟩) (by assumption) ?_
          try simp only [Act.put, List.setIfInBounds_toArray, List.set_cons_zero, List.set_cons_succ]
          refine wpAnyH_take (i := 16) (oi := { dst := some 57, op := Go.Op.move (Go.Operand.tmp 9), type := 3, pos := "law.go:81", after := #[{ on := 13, ground := Go.Ground.guard }], guard := some (13, true) }) (v := undef) rfl (by kernel_rfl) (by kernel_rfl) (by kernel_rfl) (fun _ _ _ h => h) (Or.inr ⟨by rfl, rfl⟩) (by assumption) ?_
          try simp only [Act.put, List.setIfInBounds_toArray, List.set_cons_zero, List.set_cons_succ]
          refine wpAnyH_take (i := 17) (oi := { dst := some 58, op := Go.Op.call { callee := Go.Callee.value (Go.Operand.func 36), args := #[Go.Operand.tmp 55, Go.Operand.tmp 56, Go.Operand.tmp 57], argTypes := #[24, 3, 3] }, type := 4, pos := "law.go:81", after := #[{ on := 14, ground := Go.Ground.data }, { on := 15, ground := Go.Ground.data }, { on := 16, ground := Go.Ground.data }, { on := 13, ground := Go.Ground.chain }, { on := 13, ground := Go.Ground.guard }], guard := some (13, true) }) (v := undef) rfl (by kernel_rfl) (by kernel_rfl) (by kernel_rfl) (fun _ _ _ h => h) (Or.inr ⟨by rfl, rfl⟩) (by assumption) ?_
          try simp only [Act.put, List.setIfInBounds_toArray, List.set_cons_zero, List.set_cons_succ]
          refine wpAnyH_take (i := 18) (oi := { dst := some 59, op := Go.Op.pick (Go.Operand.tmp 54) (Go.Operand.tmp 58) (Go.Operand.const (Go.Value.bool false)), type := 4, pos := "law.go:81", after := #[{ on := 13, ground := Go.Ground.data }, { on := 17, ground := Go.Ground.data }, { on := 8, ground := Go.Ground.guard }], guard := some (8, false) }) (v := ?vv16) rfl (by kernel_rfl) (by kernel_rfl) (by kernel_rfl) (fun _ _ _ h => h) (Or.inl ⟨by rfl, ?hy16⟩) (by assumption) ?rr16
          case hy16 => intro w hSw; (try dsimp only at hSw); go_simp; all_goals with_reducible rfl
          try simp only [Act.put, List.setIfInBounds_toArray, List.set_cons_zero, List.set_cons_succ]
          refine wpAnyH_take (i := 19) (oi := { dst := some 60, op := Go.Op.move (Go.Operand.tmp 59), type := 4, pos := "law.go:81", after := #[{ on := 18, ground := Go.Ground.data }, { on := 17, ground := Go.Ground.chain }, { on := 8, ground := Go.Ground.guard }], guard := some (8, false) }) (v := ?vv17) rfl (by kernel_rfl) (by kernel_rfl) (by kernel_rfl) (fun _ _ _ h => h) (Or.inl ⟨by rfl, ?hy17⟩) (by assumption) ?rr17
          case hy17 => intro w hSw; (try dsimp only at hSw); go_simp; all_goals with_reducible rfl
          try simp only [Act.put, List.setIfInBounds_toArray, List.set_cons_zero, List.set_cons_succ]
          refine wpAnyH_take (i := 20) (oi := { dst := some 61, op := Go.Op.load 24 (Go.Operand.tmp 3), type := 24, pos := "law.go:81", after := #[{ on := 19, ground := Go.Ground.guard }], guard := some (19, true) }) (v := undef) rfl (by kernel_rfl) (by kernel_rfl) (by kernel_rfl) (fun _ _ _ h => h) (Or.inr ⟨by rfl, rfl⟩) (by assumption) ?_
          try simp only [Act.put, List.setIfInBounds_toArray, List.set_cons_zero, List.set_cons_succ]
          refine wpAnyH_take (i := 21) (oi := { dst := some 62, op := Go.Op.move (Go.Operand.tmp 9), type := 3, pos := "law.go:81", after := #[{ on := 19, ground := Go.Ground.guard }], guard := some (19, true) }) (v := undef) rfl (by kernel_rfl) (by kernel_rfl) (by kernel_rfl) (fun _ _ _ h => h) (Or.inr ⟨by rfl, rfl⟩) (by assumption) ?_
          try simp only [Act.put, List.setIfInBounds_toArray, List.set_cons_zero, List.set_cons_succ]
          refine wpAnyH_take (i := 22) (oi := { dst := some 63, op := Go.Op.call { callee := Go.Callee.value (Go.Operand.func 37), args := #[Go.Operand.tmp 61, Go.Operand.tmp 62], argTypes := #[24, 3] }, type := 4, pos := "law.go:81", after := #[{ on := 20, ground := Go.Ground.data }, { on := 21, ground := Go.Ground.data }, { on := 19, ground := Go.Ground.chain }, { on := 19, ground := Go.Ground.guard }], guard := some (19, true) }) (v := undef) rfl (by kernel_rfl) (by kernel_rfl) (by kernel_rfl) (fun _ _ _ h => h) (Or.inr ⟨by rfl, rfl⟩) (by assumption) ?_
          try simp only [Act.put, List.setIfInBounds_toArray, List.set_cons_zero, List.set_cons_succ]
          refine wpAnyH_take (i := 23) (oi := { dst := some 64, op := Go.Op.pick (Go.Operand.tmp 60) (Go.Operand.tmp 63) (Go.Operand.const (Go.Value.bool false)), type := 4, pos := "law.go:81", after := #[{ on := 19, ground := Go.Ground.data }, { on := 22, ground := Go.Ground.data }, { on := 8, ground := Go.Ground.guard }], guard := some (8, false) }) (v := ?vv21) rfl (by kernel_rfl) (by kernel_rfl) (by kernel_rfl) (fun _ _ _ h => h) (Or.inl ⟨by rfl, ?hy21⟩) (by assumption) ?rr21
          case hy21 => intro w hSw; (try dsimp only at hSw); go_simp; all_goals with_reducible rfl
          try simp only [Act.put, List.setIfInBounds_toArray, List.set_cons_zero, List.set_cons_succ]
          refine wpAnyH_take (i := 24) (oi := { dst := some 65, op := Go.Op.move (Go.Operand.tmp 64), type := 4, pos := "law.go:81", after := #[{ on := 23, ground := Go.Ground.data }, { on := 22, ground := Go.Ground.chain }, { on := 8, ground := Go.Ground.guard }], guard := some (8, false) }) (v := ?vv22) rfl (by kernel_rfl) (by kernel_rfl) (by kernel_rfl) (fun _ _ _ h => h) (Or.inl ⟨by rfl, ?hy22⟩) (by assumption) ?rr22
          case hy22 => intro w hSw; (try dsimp only at hSw); go_simp; all_goals with_reducible rfl
          try simp only [Act.put, List.setIfInBounds_toArray, List.set_cons_zero, List.set_cons_succ]
          refine wpAnyH_take (i := 25) (oi := { dst := some 66, op := Go.Op.load 24 (Go.Operand.tmp 3), type := 24, pos := "law.go:81", after := #[{ on := 24, ground := Go.Ground.guard }], guard := some (24, true) }) (v := undef) rfl (by kernel_rfl) (by kernel_rfl) (by kernel_rfl) (fun _ _ _ h => h) (Or.inr ⟨by rfl, rfl⟩) (by assumption) ?_
          try simp only [Act.put, List.setIfInBounds_toArray, List.set_cons_zero, List.set_cons_succ]
          refine wpAnyH_take (i := 26) (oi := { dst := some 67, op := Go.Op.move (Go.Operand.tmp 7), type := 3, pos := "law.go:81", after := #[{ on := 24, ground := Go.Ground.guard }], guard := some (24, true) }) (v := undef) rfl (by kernel_rfl) (by kernel_rfl) (by kernel_rfl) (fun _ _ _ h => h) (Or.inr ⟨by rfl, rfl⟩) (by assumption) ?_
          try simp only [Act.put, List.setIfInBounds_toArray, List.set_cons_zero, List.set_cons_succ]
          refine wpAnyH_take (i := 27) (oi := { dst := some 68, op := Go.Op.move (Go.Operand.tmp 9), type := 3, pos := "law.go:81", after := #[{ on := 24, ground := Go.Ground.guard }], guard := some (24, true) }) (v := undef) rfl (by kernel_rfl) (by kernel_rfl) (by kernel_rfl) (fun _ _ _ h => h) (Or.inr ⟨by rfl, rfl⟩) (by assumption) ?_
          try simp only [Act.put, List.setIfInBounds_toArray, List.set_cons_zero, List.set_cons_succ]
          refine wpAnyH_take (i := 28) (oi := { dst := some 69, op := Go.Op.call { callee := Go.Callee.value (Go.Operand.func 36), args := #[Go.Operand.tmp 66, Go.Operand.tmp 67, Go.Operand.tmp 68], argTypes := #[24, 3, 3] }, type := 4, pos := "law.go:81", after := #[{ on := 25, ground := Go.Ground.data }, { on := 26, ground := Go.Ground.data }, { on := 27, ground := Go.Ground.data }, { on := 24, ground := Go.Ground.chain }, { on := 24, ground := Go.Ground.guard }], guard := some (24, true) }) (v := undef) rfl (by kernel_rfl) (by kernel_rfl) (by kernel_rfl) (fun _ _ _ h => h) (Or.inr ⟨by rfl, rfl⟩) (by assumption) ?_
          try simp only [Act.put, List.setIfInBounds_toArray, List.set_cons_zero, List.set_cons_succ]
          refine wpAnyH_take (i := 29) (oi := { dst := some 70, op := Go.Op.unOp Go.UnOp.not 4 (Go.Operand.tmp 69), type := 4, pos := "law.go:81", after := #[{ on := 28, ground := Go.Ground.data }, { on := 24, ground := Go.Ground.guard }], guard := some (24, true) }) (v := undef) rfl (by kernel_rfl) (by kernel_rfl) (by kernel_rfl) (fun _ _ _ h => h) (Or.inr ⟨by rfl, rfl⟩) (by assumption) ?_
          try simp only [Act.put, List.setIfInBounds_toArray, List.set_cons_zero, List.set_cons_succ]
          refine wpAnyH_take (i := 30) (oi := { dst := some 71, op := Go.Op.pick (Go.Operand.tmp 65) (Go.Operand.tmp 70) (Go.Operand.const (Go.Value.bool false)), type := 4, pos := "law.go:81", after := #[{ on := 24, ground := Go.Ground.data }, { on := 29, ground := Go.Ground.data }, { on := 8, ground := Go.Ground.guard }], guard := some (8, false) }) (v := ?vv28) rfl (by kernel_rfl) (by kernel_rfl) (by kernel_rfl) (fun _ _ _ h => h) (Or.inl ⟨by rfl, ?hy28⟩) (by assumption) ?rr28
          case hy28 => intro w hSw; (try dsimp only at hSw); go_simp; all_goals with_reducible rfl
          try simp only [Act.put, List.setIfInBounds_toArray, List.set_cons_zero, List.set_cons_succ]
          refine wpAnyH_take (i := 31) (oi := { dst := some 72, op := Go.Op.pick (Go.Operand.tmp 49) (Go.Operand.const (Go.Value.bool true)) (Go.Operand.tmp 71), type := 4, pos := "law.go:81", after := #[{ on := 8, ground := Go.Ground.data }, { on := 30, ground := Go.Ground.data }], guard := none }) (v := ?vv29) rfl (by kernel_rfl) (by kernel_rfl) (by kernel_rfl) (fun _ _ _ h => h) (Or.inl ⟨by rfl, ?hy29⟩) (by assumption) ?rr29
          case hy29 => intro w hSw; (try dsimp only at hSw); go_simp; all_goals with_reducible rfl
          try simp only [Act.put, List.setIfInBounds_toArray, List.set_cons_zero, List.set_cons_succ]
          refine wpAnyH_done (by kernel_rfl) ?_ _
          obtain ⟨w5, hw⟩ : ∃ u, u = u3 := ⟨_, rfl⟩
          have hb := HV3.out
          rw [← hw] at hb ⊢
          have HB5 := hid (HB4.out.trans (hb.mono HB4.out.size))
          have X5 := hid (X4.out.later hb)
          have V5 := hid (V4.out.later hb)
          have O5 := hid (O4.out.below hb)
          clear hb hw HV1 HV2 HV3 hH0 hH1 hH2 hH3 x0 x1 x2 v0 v1 v2
          have x0 := X5.out.cell 0
          have x1 := X5.out.cell 1
          have x2 := X5.out.cell 2
          have v0 := V5.out.cell 0
          have v1 := V5.out.cell 1
          have v2 := V5.out.cell 2
          simp only [List.getElem?_toArray, List.getElem?_cons_zero, List.getElem?_cons_succ] at x0 x1 x2 v0 v1 v2
          obtain ⟨eb, heb⟩ : ∃ x, x = (lk9 h p1 s).2.2 := ⟨_, rfl⟩
          obtain ⟨ea, hea⟩ : ∃ x, x = (lk9 h p0 s).2.2 := ⟨_, rfl⟩
          have HEB := hid heb
          have HEA := hid hea
          clear heb hea
          go_wp2_with fail
          refine (lfind_any9 h p1 s A c _ O5.out HF.out).mono ?_
          rintro e w6 ⟨rfl, hb⟩
          rw [← HEB.out]
          have HB6 := hid (HB5.out.trans (hb.mono HB5.out.size))
          have X6 := hid (X5.out.later hb)
          have V6 := hid (V5.out.later hb)
          have O6 := hid (O5.out.below hb)
          clear x0 x1 x2 v0 v1 v2
          clear hb
          have x0 := X6.out.cell 0
          have x1 := X6.out.cell 1
          have x2 := X6.out.cell 2
          have v0 := V6.out.cell 0
          have v1 := V6.out.cell 1
          have v2 := V6.out.cell 2
          simp only [List.getElem?_toArray, List.getElem?_cons_zero, List.getElem?_cons_succ] at x0 x1 x2 v0 v1 v2
          go_wp2_with fail
          refine (lfind_any9 h p0 s A c _ O6.out HF.out).mono ?_
          rintro e w7 ⟨rfl, hb⟩
          rw [← HEA.out]
          have HB7 := hid (HB6.out.trans (hb.mono HB6.out.size))
          have X7 := hid (X6.out.later hb)
          have V7 := hid (V6.out.later hb)
          have O7 := hid (O6.out.below hb)
          clear x0 x1 x2 v0 v1 v2
          clear hb
          have x0 := X7.out.cell 0
          have x1 := X7.out.cell 1
          have x2 := X7.out.cell 2
          have v0 := V7.out.cell 0
          have v1 := V7.out.cell 1
          have v2 := V7.out.cell 2
          simp only [List.getElem?_toArray, List.getElem?_cons_zero, List.getElem?_cons_succ] at x0 x1 x2 v0 v1 v2
          go_wp2_with fail
          refine (lunder_any9 h p0 p1 A c _ O7.out HF.out).mono ?_
          rintro e w8 ⟨rfl, hb⟩
          rw [U1.out]
          have HB8 := hid (HB7.out.trans (hb.mono HB7.out.size))
          have X8 := hid (X7.out.later hb)
          have V8 := hid (V7.out.later hb)
          have O8 := hid (O7.out.below hb)
          clear x0 x1 x2 v0 v1 v2
          clear hb
          have x0 := X8.out.cell 0
          have x1 := X8.out.cell 1
          have x2 := X8.out.cell 2
          have v0 := V8.out.cell 0
          have v1 := V8.out.cell 1
          have v2 := V8.out.cell 2
          simp only [List.getElem?_toArray, List.getElem?_cons_zero, List.getElem?_cons_succ] at x0 x1 x2 v0 v1 v2
          go_wp2_with fail
          go_ret
          exact ⟨rfl, HB8.out⟩
        · have U1 := hid u1
          clear u1
          cases u2 : un9 h p2 64 p1
          · have U2 := hid u2
            clear u2
            refine wp_region_held_drew (S := (fun w' => w'.cell? ⟨w.heap.size, 0, none⟩ = some (.slice A h.objs.length c) ∧ w'.cell? ⟨w.heap.size, 1, none⟩ = some (.int .i64 h.cap) ∧ w'.cell? ⟨w.heap.size, 2, none⟩ = some (.int .i64 h.last))) (by kernel_rfl) ?_ (fun hH0 => ?_)
            · exact ⟨x0, x1, x2⟩
            refine wpAnyH_take (i := 0) (oi := { dst := some 41, op := Go.Op.load 24 (Go.Operand.tmp 3), type := 24, pos := "law.go:81", after := #[], guard := none }) (v := ?vv30) rfl (by kernel_rfl) (by kernel_rfl) (by kernel_rfl) (fun _ _ _ h => h) (Or.inl ⟨by rfl, ?hy30⟩) (by assumption) ?rr30
            case hy30 => intro w hSw; (try dsimp only at hSw); go_simp; all_goals with_reducible rfl
            try simp only [Act.put, List.setIfInBounds_toArray, List.set_cons_zero, List.set_cons_succ]
            refine wpAnyH_take (i := 1) (oi := { dst := some 42, op := Go.Op.move (Go.Operand.tmp 7), type := 3, pos := "law.go:81", after := #[], guard := none }) (v := ?vv31) rfl (by kernel_rfl) (by kernel_rfl) (by kernel_rfl) (fun _ _ _ h => h) (Or.inl ⟨by rfl, ?hy31⟩) (by assumption) ?rr31
            case hy31 => intro w hSw; (try dsimp only at hSw); go_simp; all_goals with_reducible rfl
            try simp only [Act.put, List.setIfInBounds_toArray, List.set_cons_zero, List.set_cons_succ]
            refine wpAnyH_take (i := 2) (oi := { dst := some 43, op := Go.Op.move (Go.Operand.tmp 7), type := 3, pos := "law.go:81", after := #[], guard := none }) (v := ?vv32) rfl (by kernel_rfl) (by kernel_rfl) (by kernel_rfl) (fun _ _ _ h => h) (Or.inl ⟨by rfl, ?hy32⟩) (by assumption) ?rr32
            case hy32 => intro w hSw; (try dsimp only at hSw); go_simp; all_goals with_reducible rfl
            try simp only [Act.put, List.setIfInBounds_toArray, List.set_cons_zero, List.set_cons_succ]
            refine wpAnyH_take (i := 4) (oi := { dst := some 45, op := Go.Op.load 24 (Go.Operand.tmp 3), type := 24, pos := "law.go:81", after := #[], guard := none }) (v := ?vv33) rfl (by kernel_rfl) (by kernel_rfl) (by kernel_rfl) (fun _ _ _ h => h) (Or.inl ⟨by rfl, ?hy33⟩) (by assumption) ?rr33
            case hy33 => intro w hSw; (try dsimp only at hSw); go_simp; all_goals with_reducible rfl
            try simp only [Act.put, List.setIfInBounds_toArray, List.set_cons_zero, List.set_cons_succ]
            refine wpAnyH_take (i := 5) (oi := { dst := some 46, op := Go.Op.move (Go.Operand.tmp 7), type := 3, pos := "law.go:81", after := #[], guard := none }) (v := ?vv34) rfl (by kernel_rfl) (by kernel_rfl) (by kernel_rfl) (fun _ _ _ h => h) (Or.inl ⟨by rfl, ?hy34⟩) (by assumption) ?rr34
            case hy34 => intro w hSw; (try dsimp only at hSw); go_simp; all_goals with_reducible rfl
            try simp only [Act.put, List.setIfInBounds_toArray, List.set_cons_zero, List.set_cons_succ]
            refine wpAnyH_ready (rs := [3]) (by kernel_rfl) (by simp) ?_
            refine AllReadyH.cons (i := 3) (o := { dst := some 44, op := Go.Op.call { callee := Go.Callee.value (Go.Operand.func 36), args := #[Go.Operand.tmp 41, Go.Operand.tmp 42, Go.Operand.tmp 43], argTypes := #[24, 3, 3] }, type := 4, pos := "law.go:81", after := #[{ on := 0, ground := Go.Ground.data }, { on := 1, ground := Go.Ground.data }, { on := 2, ground := Go.Ground.data }], guard := none }) rfl (fun K hK => ?_) AllReadyH.nil
            go_simp
            go_at_call 36
            refine (lunder_any9 h p0 p0 A c _ (O4.out.below (Below.refl w4.heap.size w4).drew) HF.out).mono ?_
            rintro e u1 ⟨rfl, hb⟩
            rw [US.out]
            have HV1 := hid (then_w (Below.refl w4.heap.size w4).drew hb)
            refine hK.out _ _ ?_ (fun hH1 => ?_)
            · exact ⟨cell_later hb hH0.1, cell_later hb hH0.2.1, cell_later hb hH0.2.2⟩
            clear hK K
            try simp only [Act.put, List.setIfInBounds_toArray, List.set_cons_zero, List.set_cons_succ]
            clear hb
            refine wpAnyH_ready (rs := [6]) (by kernel_rfl) (by simp) ?_
            refine AllReadyH.cons (i := 6) (o := { dst := some 47, op := Go.Op.call { callee := Go.Callee.value (Go.Operand.func 37), args := #[Go.Operand.tmp 45, Go.Operand.tmp 46], argTypes := #[24, 3] }, type := 4, pos := "law.go:81", after := #[{ on := 4, ground := Go.Ground.data }, { on := 5, ground := Go.Ground.data }, { on := 3, ground := Go.Ground.chain }], guard := none }) rfl (fun K hK => ?_) AllReadyH.nil
            go_simp
            go_at_call 37
            refine (rclass_any9 h p0 A c _ (O4.out.below HV1.out) HF.out).mono ?_
            rintro e u2 ⟨rfl, hb⟩
            rw [← HCL.out]
            have HV2 := hid (then_w HV1.out hb)
            refine hK.out _ _ ?_ (fun hH2 => ?_)
            · exact ⟨cell_later hb hH1.1, cell_later hb hH1.2.1, cell_later hb hH1.2.2⟩
            clear hK K
            try simp only [Act.put, List.setIfInBounds_toArray, List.set_cons_zero, List.set_cons_succ]
            clear hb
            refine wpAnyH_take (i := 7) (oi := { dst := some 48, op := Go.Op.binOp Go.BinOp.neq 4 (Go.Operand.tmp 44) (Go.Operand.tmp 47) 4, type := 4, pos := "law.go:81", after := #[{ on := 3, ground := Go.Ground.data }, { on := 6, ground := Go.Ground.data }], guard := none }) (v := ?vv35) rfl (by kernel_rfl) (by kernel_rfl) (by kernel_rfl) (fun _ _ _ h => h) (Or.inl ⟨by rfl, ?hy35⟩) (by assumption) ?rr35
            case hy35 => intro w hSw; (try dsimp only at hSw); go_simp; all_goals with_reducible rfl
            try simp only [Act.put, List.setIfInBounds_toArray, List.set_cons_zero, List.set_cons_succ]
            refine wpAnyH_take (i := 8) (oi := { dst := some 49, op := Go.Op.move (Go.Operand.tmp 48), type := 4, pos := "law.go:81", after := #[{ on := 7, ground := Go.Ground.data }, { on := 6, ground := Go.Ground.chain }], guard := none }) (v := ?vv36) rfl (by kernel_rfl) (by kernel_rfl) (by kernel_rfl) (fun _ _ _ h => h) (Or.inl ⟨by rfl, ?hy36⟩) (by assumption) ?rr36
            case hy36 => intro w hSw; (try dsimp only at hSw); go_simp; all_goals with_reducible rfl
            try simp only [Act.put, List.setIfInBounds_toArray, List.set_cons_zero, List.set_cons_succ]
            refine wpAnyH_take (i := 9) (oi := { dst := some 50, op := Go.Op.load 24 (Go.Operand.tmp 3), type := 24, pos := "law.go:81", after := #[{ on := 8, ground := Go.Ground.guard }], guard := some (8, false) }) (v := ?vv37) rfl (by kernel_rfl) (by kernel_rfl) (by kernel_rfl) (fun _ _ _ h => h) (Or.inl ⟨by rfl, ?hy37⟩) (by assumption) ?rr37
            case hy37 => intro w hSw; (try dsimp only at hSw); go_simp; all_goals with_reducible rfl
            try simp only [Act.put, List.setIfInBounds_toArray, List.set_cons_zero, List.set_cons_succ]
            refine wpAnyH_take (i := 10) (oi := { dst := some 51, op := Go.Op.move (Go.Operand.tmp 7), type := 3, pos := "law.go:81", after := #[{ on := 8, ground := Go.Ground.guard }], guard := some (8, false) }) (v := ?vv38) rfl (by kernel_rfl) (by kernel_rfl) (by kernel_rfl) (fun _ _ _ h => h) (Or.inl ⟨by rfl, ?hy38⟩) (by assumption) ?rr38
            case hy38 => intro w hSw; (try dsimp only at hSw); go_simp; all_goals with_reducible rfl
            try simp only [Act.put, List.setIfInBounds_toArray, List.set_cons_zero, List.set_cons_succ]
            refine wpAnyH_take (i := 11) (oi := { dst := some 52, op := Go.Op.move (Go.Operand.tmp 8), type := 3, pos := "law.go:81", after := #[{ on := 8, ground := Go.Ground.guard }], guard := some (8, false) }) (v := ?vv39) rfl (by kernel_rfl) (by kernel_rfl) (by kernel_rfl) (fun _ _ _ h => h) (Or.inl ⟨by rfl, ?hy39⟩) (by assumption) ?rr39
            case hy39 => intro w hSw; (try dsimp only at hSw); go_simp; all_goals with_reducible rfl
            try simp only [Act.put, List.setIfInBounds_toArray, List.set_cons_zero, List.set_cons_succ]
            refine wpAnyH_ready (rs := [12]) (by kernel_rfl) (by simp) ?_
            refine AllReadyH.cons (i := 12) (o := { dst := some 53, op := Go.Op.call { callee := Go.Callee.value (Go.Operand.func 36), args := #[Go.Operand.tmp 50, Go.Operand.tmp 51, Go.Operand.tmp 52], argTypes := #[24, 3, 3] }, type := 4, pos := "law.go:81", after := #[{ on := 9, ground := Go.Ground.data }, { on := 10, ground := Go.Ground.data }, { on := 11, ground := Go.Ground.data }, { on := 8, ground := Go.Ground.chain }, { on := 8, ground := Go.Ground.guard }], guard := some (8, false) }) rfl (fun K hK => ?_) AllReadyH.nil
            go_simp
            go_at_call 36
            refine (lunder_any9 h p0 p1 A c _ (O4.out.below HV2.out) HF.out).mono ?_
            rintro e u3 ⟨rfl, hb⟩
            rw [U1.out]
            have HV3 := hid (then_w HV2.out hb)
            refine hK.out _ _ ?_ (fun hH3 => ?_)
            · exact ⟨cell_later hb hH2.1, cell_later hb hH2.2.1, cell_later hb hH2.2.2⟩
            clear hK K
            try simp only [Act.put, List.setIfInBounds_toArray, List.set_cons_zero, List.set_cons_succ]
            clear hb
            refine wpAnyH_take (i := 13) (oi := { dst := some 54, op := Go.Op.move (Go.Operand.tmp 53), type := 4, pos := "law.go:81", after := #[{ on := 12, ground := Go.Ground.data }, { on := 12, ground := Go.Ground.chain }, { on := 8, ground := Go.Ground.guard }], guard := some (8, false) }) (v := ?vv40) rfl (by kernel_rfl) (by kernel_rfl) (by kernel_rfl) (fun _ _ _ h => h) (Or.inl ⟨by rfl, ?hy40⟩) (by assumption) ?rr40
            case hy40 => intro w hSw; (try dsimp only at hSw); go_simp; all_goals with_reducible rfl
            try simp only [Act.put, List.setIfInBounds_toArray, List.set_cons_zero, List.set_cons_succ]
            refine wpAnyH_take (i := 14) (oi := { dst := some 55, op := Go.Op.load 24 (Go.Operand.tmp 3), type := 24, pos := "law.go:81", after := #[{ on := 13, ground := Go.Ground.guard }], guard := some (13, true) }) (v := ?vv41) rfl (by kernel_rfl) (by kernel_rfl) (by kernel_rfl) (fun _ _ _ h => h) (Or.inl ⟨by rfl, ?hy41⟩) (by assumption) ?rr41
            case hy41 => intro w hSw; (try dsimp only at hSw); go_simp; all_goals with_reducible rfl
            try simp only [Act.put, List.setIfInBounds_toArray, List.set_cons_zero, List.set_cons_succ]
            refine wpAnyH_take (i := 15) (oi := { dst := some 56, op := Go.Op.move (Go.Operand.tmp 8), type := 3, pos := "law.go:81", after := #[{ on := 13, ground := Go.Ground.guard }], guard := some (13, true) }) (v := ?vv42) rfl (by kernel_rfl) (by kernel_rfl) (by kernel_rfl) (fun _ _ _ h => h) (Or.inl ⟨by rfl, ?hy42⟩) (by assumption) ?rr42
            case hy42 => intro w hSw; (try dsimp only at hSw); go_simp; all_goals with_reducible rfl
            try simp only [Act.put, List.setIfInBounds_toArray, List.set_cons_zero, List.set_cons_succ]
            refine wpAnyH_take (i := 16) (oi := { dst := some 57, op := Go.Op.move (Go.Operand.tmp 9), type := 3, pos := "law.go:81", after := #[{ on := 13, ground := Go.Ground.guard }], guard := some (13, true) }) (v := ?vv43) rfl (by kernel_rfl) (by kernel_rfl) (by kernel_rfl) (fun _ _ _ h => h) (Or.inl ⟨by rfl, ?hy43⟩) (by assumption) ?rr43
            case hy43 => intro w hSw; (try dsimp only at hSw); go_simp; all_goals with_reducible rfl
            try simp only [Act.put, List.setIfInBounds_toArray, List.set_cons_zero, List.set_cons_succ]
            refine wpAnyH_ready (rs := [17]) (by kernel_rfl) (by simp) ?_
            refine AllReadyH.cons (i := 17) (o := { dst := some 58, op := Go.Op.call { callee := Go.Callee.value (Go.Operand.func 36), args := #[Go.Operand.tmp 55, Go.Operand.tmp 56, Go.Operand.tmp 57], argTypes := #[24, 3, 3] }, type := 4, pos := "law.go:81", after := #[{ on := 14, ground := Go.Ground.data }, { on := 15, ground := Go.Ground.data }, { on := 16, ground := Go.Ground.data }, { on := 13, ground := Go.Ground.chain }, { on := 13, ground := Go.Ground.guard }], guard := some (13, true) }) rfl (fun K hK => ?_) AllReadyH.nil
            go_simp
            go_at_call 36
            refine (lunder_any9 h p1 p2 A c _ (O4.out.below HV3.out) HF.out).mono ?_
            rintro e u4 ⟨rfl, hb⟩
            rw [U2.out]
            have HV4 := hid (then_w HV3.out hb)
            refine hK.out _ _ ?_ (fun hH4 => ?_)
            · exact ⟨cell_later hb hH3.1, cell_later hb hH3.2.1, cell_later hb hH3.2.2⟩
            clear hK K
            try simp only [Act.put, List.setIfInBounds_toArray, List.set_cons_zero, List.set_cons_succ]
            clear hb
            refine wpAnyH_take (i := 18) (oi := { dst := some 59, op := Go.Op.pick (Go.Operand.tmp 54) (Go.Operand.tmp 58) (Go.Operand.const (Go.Value.bool false)), type := 4, pos := "law.go:81", after := #[{ on := 13, ground := Go.Ground.data }, { on := 17, ground := Go.Ground.data }, { on := 8, ground := Go.Ground.guard }], guard := some (8, false) }) (v := ?vv44) rfl (by kernel_rfl) (by kernel_rfl) (by kernel_rfl) (fun _ _ _ h => h) (Or.inl ⟨by rfl, ?hy44⟩) (by assumption) ?rr44
            case hy44 => intro w hSw; (try dsimp only at hSw); go_simp; all_goals with_reducible rfl
            try simp only [Act.put, List.setIfInBounds_toArray, List.set_cons_zero, List.set_cons_succ]
            refine wpAnyH_take (i := 19) (oi := { dst := some 60, op := Go.Op.move (Go.Operand.tmp 59), type := 4, pos := "law.go:81", after := #[{ on := 18, ground := Go.Ground.data }, { on := 17, ground := Go.Ground.chain }, { on := 8, ground := Go.Ground.guard }], guard := some (8, false) }) (v := ?vv45) rfl (by kernel_rfl) (by kernel_rfl) (by kernel_rfl) (fun _ _ _ h => h) (Or.inl ⟨by rfl, ?hy45⟩) (by assumption) ?rr45
            case hy45 => intro w hSw; (try dsimp only at hSw); go_simp; all_goals with_reducible rfl
            try simp only [Act.put, List.setIfInBounds_toArray, List.set_cons_zero, List.set_cons_succ]
            refine wpAnyH_take (i := 20) (oi := { dst := some 61, op := Go.Op.load 24 (Go.Operand.tmp 3), type := 24, pos := "law.go:81", after := #[{ on := 19, ground := Go.Ground.guard }], guard := some (19, true) }) (v := undef) rfl (by kernel_rfl) (by kernel_rfl) (by kernel_rfl) (fun _ _ _ h => h) (Or.inr ⟨by rfl, rfl⟩) (by assumption) ?_
            try simp only [Act.put, List.setIfInBounds_toArray, List.set_cons_zero, List.set_cons_succ]
            refine wpAnyH_take (i := 21) (oi := { dst := some 62, op := Go.Op.move (Go.Operand.tmp 9), type := 3, pos := "law.go:81", after := #[{ on := 19, ground := Go.Ground.guard }], guard := some (19, true) }) (v := undef) rfl (by kernel_rfl) (by kernel_rfl) (by kernel_rfl) (fun _ _ _ h => h) (Or.inr ⟨by rfl, rfl⟩) (by assumption) ?_
            try simp only [Act.put, List.setIfInBounds_toArray, List.set_cons_zero, List.set_cons_succ]
            refine wpAnyH_take (i := 22) (oi := { dst := some 63, op := Go.Op.call { callee := Go.Callee.value (Go.Operand.func 37), args := #[Go.Operand.tmp 61, Go.Operand.tmp 62], argTypes := #[24, 3] }, type := 4, pos := "law.go:81", after := #[{ on := 20, ground := Go.Ground.data }, { on := 21, ground := Go.Ground.data }, { on := 19, ground := Go.Ground.chain }, { on := 19, ground := Go.Ground.guard }], guard := some (19, true) }) (v := undef) rfl (by kernel_rfl) (by kernel_rfl) (by kernel_rfl) (fun _ _ _ h => h) (Or.inr ⟨by rfl, rfl⟩) (by assumption) ?_
            try simp only [Act.put, List.setIfInBounds_toArray, List.set_cons_zero, List.set_cons_succ]
            refine wpAnyH_take (i := 23) (oi := { dst := some 64, op := Go.Op.pick (Go.Operand.tmp 60) (Go.Operand.tmp 63) (Go.Operand.const (Go.Value.bool false)), type := 4, pos := "law.go:81", after := #[{ on := 19, ground := Go.Ground.data }, { on := 22, ground := Go.Ground.data }, { on := 8, ground := Go.Ground.guard }], guard := some (8, false) }) (v := ?vv49) rfl (by kernel_rfl) (by kernel_rfl) (by kernel_rfl) (fun _ _ _ h => h) (Or.inl ⟨by rfl, ?hy49⟩) (by assumption) ?rr49
            case hy49 => intro w hSw; (try dsimp only at hSw); go_simp; all_goals with_reducible rfl
            try simp only [Act.put, List.setIfInBounds_toArray, List.set_cons_zero, List.set_cons_succ]
            refine wpAnyH_take (i := 24) (oi := { dst := some 65, op := Go.Op.move (Go.Operand.tmp 64), type := 4, pos := "law.go:81", after := #[{ on := 23, ground := Go.Ground.data }, { on := 22, ground := Go.Ground.chain }, { on := 8, ground := Go.Ground.guard }], guard := some (8, false) }) (v := ?vv50) rfl (by kernel_rfl) (by kernel_rfl) (by kernel_rfl) (fun _ _ _ h => h) (Or.inl ⟨by rfl, ?hy50⟩) (by assumption) ?rr50
            case hy50 => intro w hSw; (try dsimp only at hSw); go_simp; all_goals with_reducible rfl
            try simp only [Act.put, List.setIfInBounds_toArray, List.set_cons_zero, List.set_cons_succ]
            refine wpAnyH_take (i := 25) (oi := { dst := some 66, op := Go.Op.load 24 (Go.Operand.tmp 3), type := 24, pos := "law.go:81", after := #[{ on := 24, ground := Go.Ground.guard }], guard := some (24, true) }) (v := undef) rfl (by kernel_rfl) (by kernel_rfl) (by kernel_rfl) (fun _ _ _ h => h) (Or.inr ⟨by rfl, rfl⟩) (by assumption) ?_
            try simp only [Act.put, List.setIfInBounds_toArray, List.set_cons_zero, List.set_cons_succ]
            refine wpAnyH_take (i := 26) (oi := { dst := some 67, op := Go.Op.move (Go.Operand.tmp 7), type := 3, pos := "law.go:81", after := #[{ on := 24, ground := Go.Ground.guard }], guard := some (24, true) }) (v := undef) rfl (by kernel_rfl) (by kernel_rfl) (by kernel_rfl) (fun _ _ _ h => h) (Or.inr ⟨by rfl, rfl⟩) (by assumption) ?_
            try simp only [Act.put, List.setIfInBounds_toArray, List.set_cons_zero, List.set_cons_succ]
            refine wpAnyH_take (i := 27) (oi := { dst := some 68, op := Go.Op.move (Go.Operand.tmp 9), type := 3, pos := "law.go:81", after := #[{ on := 24, ground := Go.Ground.guard }], guard := some (24, true) }) (v := undef) rfl (by kernel_rfl) (by kernel_rfl) (by kernel_rfl) (fun _ _ _ h => h) (Or.inr ⟨by rfl, rfl⟩) (by assumption) ?_
            try simp only [Act.put, List.setIfInBounds_toArray, List.set_cons_zero, List.set_cons_succ]
            refine wpAnyH_take (i := 28) (oi := { dst := some 69, op := Go.Op.call { callee := Go.Callee.value (Go.Operand.func 36), args := #[Go.Operand.tmp 66, Go.Operand.tmp 67, Go.Operand.tmp 68], argTypes := #[24, 3, 3] }, type := 4, pos := "law.go:81", after := #[{ on := 25, ground := Go.Ground.data }, { on := 26, ground := Go.Ground.data }, { on := 27, ground := Go.Ground.data }, { on := 24, ground := Go.Ground.chain }, { on := 24, ground := Go.Ground.guard }], guard := some (24, true) }) (v := undef) rfl (by kernel_rfl) (by kernel_rfl) (by kernel_rfl) (fun _ _ _ h => h) (Or.inr ⟨by rfl, rfl⟩) (by assumption) ?_
            try simp only [Act.put, List.setIfInBounds_toArray, List.set_cons_zero, List.set_cons_succ]
            refine wpAnyH_take (i := 29) (oi := { dst := some 70, op := Go.Op.unOp Go.UnOp.not 4 (Go.Operand.tmp 69), type := 4, pos := "law.go:81", after := #[{ on := 28, ground := Go.Ground.data }, { on := 24, ground := Go.Ground.guard }], guard := some (24, true) }) (v := undef) rfl (by kernel_rfl) (by kernel_rfl) (by kernel_rfl) (fun _ _ _ h => h) (Or.inr ⟨by rfl, rfl⟩) (by assumption) ?_
            try simp only [Act.put, List.setIfInBounds_toArray, List.set_cons_zero, List.set_cons_succ]
            refine wpAnyH_take (i := 30) (oi := { dst := some 71, op := Go.Op.pick (Go.Operand.tmp 65) (Go.Operand.tmp 70) (Go.Operand.const (Go.Value.bool false)), type := 4, pos := "law.go:81", after := #[{ on := 24, ground := Go.Ground.data }, { on := 29, ground := Go.Ground.data }, { on := 8, ground := Go.Ground.guard }], guard := some (8, false) }) (v := ?vv56) rfl (by kernel_rfl) (by kernel_rfl) (by kernel_rfl) (fun _ _ _ h => h) (Or.inl ⟨by rfl, ?hy56⟩) (by assumption) ?rr56
            case hy56 => intro w hSw; (try dsimp only at hSw); go_simp; all_goals with_reducible rfl
            try simp only [Act.put, List.setIfInBounds_toArray, List.set_cons_zero, List.set_cons_succ]
            refine wpAnyH_take (i := 31) (oi := { dst := some 72, op := Go.Op.pick (Go.Operand.tmp 49) (Go.Operand.const (Go.Value.bool true)) (Go.Operand.tmp 71), type := 4, pos := "law.go:81", after := #[{ on := 8, ground := Go.Ground.data }, { on := 30, ground := Go.Ground.data }], guard := none }) (v := ?vv57) rfl (by kernel_rfl) (by kernel_rfl) (by kernel_rfl) (fun _ _ _ h => h) (Or.inl ⟨by rfl, ?hy57⟩) (by assumption) ?rr57
            case hy57 => intro w hSw; (try dsimp only at hSw); go_simp; all_goals with_reducible rfl
            try simp only [Act.put, List.setIfInBounds_toArray, List.set_cons_zero, List.set_cons_succ]
            refine wpAnyH_done (by kernel_rfl) ?_ _
            obtain ⟨w5, hw⟩ : ∃ u, u = u4 := ⟨_, rfl⟩
            have hb := HV4.out
            rw [← hw] at hb ⊢
            have HB5 := hid (HB4.out.trans (hb.mono HB4.out.size))
            have X5 := hid (X4.out.later hb)
            have V5 := hid (V4.out.later hb)
            have O5 := hid (O4.out.below hb)
            clear hb hw HV1 HV2 HV3 HV4 hH0 hH1 hH2 hH3 hH4 x0 x1 x2 v0 v1 v2
            have x0 := X5.out.cell 0
            have x1 := X5.out.cell 1
            have x2 := X5.out.cell 2
            have v0 := V5.out.cell 0
            have v1 := V5.out.cell 1
            have v2 := V5.out.cell 2
            simp only [List.getElem?_toArray, List.getElem?_cons_zero, List.getElem?_cons_succ] at x0 x1 x2 v0 v1 v2
            obtain ⟨eb, heb⟩ : ∃ x, x = (lk9 h p1 s).2.2 := ⟨_, rfl⟩
            obtain ⟨ea, hea⟩ : ∃ x, x = (lk9 h p0 s).2.2 := ⟨_, rfl⟩
            have HEB := hid heb
            have HEA := hid hea
            clear heb hea
            go_wp2_with fail
            refine (lfind_any9 h p1 s A c _ O5.out HF.out).mono ?_
            rintro e w6 ⟨rfl, hb⟩
            rw [← HEB.out]
            have HB6 := hid (HB5.out.trans (hb.mono HB5.out.size))
            have X6 := hid (X5.out.later hb)
            have V6 := hid (V5.out.later hb)
            have O6 := hid (O5.out.below hb)
            clear x0 x1 x2 v0 v1 v2
            clear hb
            have x0 := X6.out.cell 0
            have x1 := X6.out.cell 1
            have x2 := X6.out.cell 2
            have v0 := V6.out.cell 0
            have v1 := V6.out.cell 1
            have v2 := V6.out.cell 2
            simp only [List.getElem?_toArray, List.getElem?_cons_zero, List.getElem?_cons_succ] at x0 x1 x2 v0 v1 v2
            go_wp2_with fail
            refine (lfind_any9 h p0 s A c _ O6.out HF.out).mono ?_
            rintro e w7 ⟨rfl, hb⟩
            rw [← HEA.out]
            have HB7 := hid (HB6.out.trans (hb.mono HB6.out.size))
            have X7 := hid (X6.out.later hb)
            have V7 := hid (V6.out.later hb)
            have O7 := hid (O6.out.below hb)
            clear x0 x1 x2 v0 v1 v2
            clear hb
            have x0 := X7.out.cell 0
            have x1 := X7.out.cell 1
            have x2 := X7.out.cell 2
            have v0 := V7.out.cell 0
            have v1 := V7.out.cell 1
            have v2 := V7.out.cell 2
            simp only [List.getElem?_toArray, List.getElem?_cons_zero, List.getElem?_cons_succ] at x0 x1 x2 v0 v1 v2
            go_wp2_with fail
            refine (lunder_any9 h p0 p1 A c _ O7.out HF.out).mono ?_
            rintro e w8 ⟨rfl, hb⟩
            rw [U1.out]
            have HB8 := hid (HB7.out.trans (hb.mono HB7.out.size))
            have X8 := hid (X7.out.later hb)
            have V8 := hid (V7.out.later hb)
            have O8 := hid (O7.out.below hb)
            clear x0 x1 x2 v0 v1 v2
            clear hb
            have x0 := X8.out.cell 0
            have x1 := X8.out.cell 1
            have x2 := X8.out.cell 2
            have v0 := V8.out.cell 0
            have v1 := V8.out.cell 1
            have v2 := V8.out.cell 2
            simp only [List.getElem?_toArray, List.getElem?_cons_zero, List.getElem?_cons_succ] at x0 x1 x2 v0 v1 v2
            by_cases h0 : eb = 0
            · have EA : ea = 0 := by
                rw [HEA.out, lk9_may HM.out]
                rw [h0, lk9_may HM.out] at HEB
                exact fi9_under (by have := HN.out; omega) U1.out HEB.out.symm
              subst h0
              subst EA
              go_wp2_with fail
              go_ret
              exact ⟨rfl, HB8.out⟩
            · have h0B : (eb == 0) = false := beq_eq_false_iff_ne.2 h0
              go_wp2_with fail
              go_ret
              exact ⟨rfl, HB8.out⟩
          · have U4 := hid (un9_trans (by have := HN.out; omega) U1.out u2)
            have U2 := hid u2
            clear u2
            cases u3 : clB9 h p2
            · have U3 := hid u3
              clear u3
              refine wp_region_held_drew (S := (fun w' => w'.cell? ⟨w.heap.size, 0, none⟩ = some (.slice A h.objs.length c) ∧ w'.cell? ⟨w.heap.size, 1, none⟩ = some (.int .i64 h.cap) ∧ w'.cell? ⟨w.heap.size, 2, none⟩ = some (.int .i64 h.last))) (by kernel_rfl) ?_ (fun hH0 => ?_)
              · exact ⟨x0, x1, x2⟩
              refine wpAnyH_take (i := 0) (oi := { dst := some 41, op := Go.Op.load 24 (Go.Operand.tmp 3), type := 24, pos := "law.go:81", after := #[], guard := none }) (v := ?vv58) rfl (by kernel_rfl) (by kernel_rfl) (by kernel_rfl) (fun _ _ _ h => h) (Or.inl ⟨by rfl, ?hy58⟩) (by assumption) ?rr58
              case hy58 => intro w hSw; (try dsimp only at hSw); go_simp; all_goals with_reducible rfl
              try simp only [Act.put, List.setIfInBounds_toArray, List.set_cons_zero, List.set_cons_succ]
              refine wpAnyH_take (i := 1) (oi := { dst := some 42, op := Go.Op.move (Go.Operand.tmp 7), type := 3, pos := "law.go:81", after := #[], guard := none }) (v := ?vv59) rfl (by kernel_rfl) (by kernel_rfl) (by kernel_rfl) (fun _ _ _ h => h) (Or.inl ⟨by rfl, ?hy59⟩) (by assumption) ?rr59
              case hy59 => intro w hSw; (try dsimp only at hSw); go_simp; all_goals with_reducible rfl
              try simp only [Act.put, List.setIfInBounds_toArray, List.set_cons_zero, List.set_cons_succ]
              refine wpAnyH_take (i := 2) (oi := { dst := some 43, op := Go.Op.move (Go.Operand.tmp 7), type := 3, pos := "law.go:81", after := #[], guard := none }) (v := ?vv60) rfl (by kernel_rfl) (by kernel_rfl) (by kernel_rfl) (fun _ _ _ h => h) (Or.inl ⟨by rfl, ?hy60⟩) (by assumption) ?rr60
              case hy60 => intro w hSw; (try dsimp only at hSw); go_simp; all_goals with_reducible rfl
              try simp only [Act.put, List.setIfInBounds_toArray, List.set_cons_zero, List.set_cons_succ]
              refine wpAnyH_take (i := 4) (oi := { dst := some 45, op := Go.Op.load 24 (Go.Operand.tmp 3), type := 24, pos := "law.go:81", after := #[], guard := none }) (v := ?vv61) rfl (by kernel_rfl) (by kernel_rfl) (by kernel_rfl) (fun _ _ _ h => h) (Or.inl ⟨by rfl, ?hy61⟩) (by assumption) ?rr61
              case hy61 => intro w hSw; (try dsimp only at hSw); go_simp; all_goals with_reducible rfl
              try simp only [Act.put, List.setIfInBounds_toArray, List.set_cons_zero, List.set_cons_succ]
              refine wpAnyH_take (i := 5) (oi := { dst := some 46, op := Go.Op.move (Go.Operand.tmp 7), type := 3, pos := "law.go:81", after := #[], guard := none }) (v := ?vv62) rfl (by kernel_rfl) (by kernel_rfl) (by kernel_rfl) (fun _ _ _ h => h) (Or.inl ⟨by rfl, ?hy62⟩) (by assumption) ?rr62
              case hy62 => intro w hSw; (try dsimp only at hSw); go_simp; all_goals with_reducible rfl
              try simp only [Act.put, List.setIfInBounds_toArray, List.set_cons_zero, List.set_cons_succ]
              refine wpAnyH_ready (rs := [3]) (by kernel_rfl) (by simp) ?_
              refine AllReadyH.cons (i := 3) (o := { dst := some 44, op := Go.Op.call { callee := Go.Callee.value (Go.Operand.func 36), args := #[Go.Operand.tmp 41, Go.Operand.tmp 42, Go.Operand.tmp 43], argTypes := #[24, 3, 3] }, type := 4, pos := "law.go:81", after := #[{ on := 0, ground := Go.Ground.data }, { on := 1, ground := Go.Ground.data }, { on := 2, ground := Go.Ground.data }], guard := none }) rfl (fun K hK => ?_) AllReadyH.nil
              go_simp
              go_at_call 36
              refine (lunder_any9 h p0 p0 A c _ (O4.out.below (Below.refl w4.heap.size w4).drew) HF.out).mono ?_
              rintro e u1 ⟨rfl, hb⟩
              rw [US.out]
              have HV1 := hid (then_w (Below.refl w4.heap.size w4).drew hb)
              refine hK.out _ _ ?_ (fun hH1 => ?_)
              · exact ⟨cell_later hb hH0.1, cell_later hb hH0.2.1, cell_later hb hH0.2.2⟩
              clear hK K
              try simp only [Act.put, List.setIfInBounds_toArray, List.set_cons_zero, List.set_cons_succ]
              clear hb
              refine wpAnyH_ready (rs := [6]) (by kernel_rfl) (by simp) ?_
              refine AllReadyH.cons (i := 6) (o := { dst := some 47, op := Go.Op.call { callee := Go.Callee.value (Go.Operand.func 37), args := #[Go.Operand.tmp 45, Go.Operand.tmp 46], argTypes := #[24, 3] }, type := 4, pos := "law.go:81", after := #[{ on := 4, ground := Go.Ground.data }, { on := 5, ground := Go.Ground.data }, { on := 3, ground := Go.Ground.chain }], guard := none }) rfl (fun K hK => ?_) AllReadyH.nil
              go_simp
              go_at_call 37
              refine (rclass_any9 h p0 A c _ (O4.out.below HV1.out) HF.out).mono ?_
              rintro e u2 ⟨rfl, hb⟩
              rw [← HCL.out]
              have HV2 := hid (then_w HV1.out hb)
              refine hK.out _ _ ?_ (fun hH2 => ?_)
              · exact ⟨cell_later hb hH1.1, cell_later hb hH1.2.1, cell_later hb hH1.2.2⟩
              clear hK K
              try simp only [Act.put, List.setIfInBounds_toArray, List.set_cons_zero, List.set_cons_succ]
              clear hb
              refine wpAnyH_take (i := 7) (oi := { dst := some 48, op := Go.Op.binOp Go.BinOp.neq 4 (Go.Operand.tmp 44) (Go.Operand.tmp 47) 4, type := 4, pos := "law.go:81", after := #[{ on := 3, ground := Go.Ground.data }, { on := 6, ground := Go.Ground.data }], guard := none }) (v := ?vv63) rfl (by kernel_rfl) (by kernel_rfl) (by kernel_rfl) (fun _ _ _ h => h) (Or.inl ⟨by rfl, ?hy63⟩) (by assumption) ?rr63
              case hy63 => intro w hSw; (try dsimp only at hSw); go_simp; all_goals with_reducible rfl
              try simp only [Act.put, List.setIfInBounds_toArray, List.set_cons_zero, List.set_cons_succ]
              refine wpAnyH_take (i := 8) (oi := { dst := some 49, op := Go.Op.move (Go.Operand.tmp 48), type := 4, pos := "law.go:81", after := #[{ on := 7, ground := Go.Ground.data }, { on := 6, ground := Go.Ground.chain }], guard := none }) (v := ?vv64) rfl (by kernel_rfl) (by kernel_rfl) (by kernel_rfl) (fun _ _ _ h => h) (Or.inl ⟨by rfl, ?hy64⟩) (by assumption) ?rr64
              case hy64 => intro w hSw; (try dsimp only at hSw); go_simp; all_goals with_reducible rfl
              try simp only [Act.put, List.setIfInBounds_toArray, List.set_cons_zero, List.set_cons_succ]
              refine wpAnyH_take (i := 9) (oi := { dst := some 50, op := Go.Op.load 24 (Go.Operand.tmp 3), type := 24, pos := "law.go:81", after := #[{ on := 8, ground := Go.Ground.guard }], guard := some (8, false) }) (v := ?vv65) rfl (by kernel_rfl) (by kernel_rfl) (by kernel_rfl) (fun _ _ _ h => h) (Or.inl ⟨by rfl, ?hy65⟩) (by assumption) ?rr65
              case hy65 => intro w hSw; (try dsimp only at hSw); go_simp; all_goals with_reducible rfl
              try simp only [Act.put, List.setIfInBounds_toArray, List.set_cons_zero, List.set_cons_succ]
              refine wpAnyH_take (i := 10) (oi := { dst := some 51, op := Go.Op.move (Go.Operand.tmp 7), type := 3, pos := "law.go:81", after := #[{ on := 8, ground := Go.Ground.guard }], guard := some (8, false) }) (v := ?vv66) rfl (by kernel_rfl) (by kernel_rfl) (by kernel_rfl) (fun _ _ _ h => h) (Or.inl ⟨by rfl, ?hy66⟩) (by assumption) ?rr66
              case hy66 => intro w hSw; (try dsimp only at hSw); go_simp; all_goals with_reducible rfl
              try simp only [Act.put, List.setIfInBounds_toArray, List.set_cons_zero, List.set_cons_succ]
              refine wpAnyH_take (i := 11) (oi := { dst := some 52, op := Go.Op.move (Go.Operand.tmp 8), type := 3, pos := "law.go:81", after := #[{ on := 8, ground := Go.Ground.guard }], guard := some (8, false) }) (v := ?vv67) rfl (by kernel_rfl) (by kernel_rfl) (by kernel_rfl) (fun _ _ _ h => h) (Or.inl ⟨by rfl, ?hy67⟩) (by assumption) ?rr67
              case hy67 => intro w hSw; (try dsimp only at hSw); go_simp; all_goals with_reducible rfl
              try simp only [Act.put, List.setIfInBounds_toArray, List.set_cons_zero, List.set_cons_succ]
              refine wpAnyH_ready (rs := [12]) (by kernel_rfl) (by simp) ?_
              refine AllReadyH.cons (i := 12) (o := { dst := some 53, op := Go.Op.call { callee := Go.Callee.value (Go.Operand.func 36), args := #[Go.Operand.tmp 50, Go.Operand.tmp 51, Go.Operand.tmp 52], argTypes := #[24, 3, 3] }, type := 4, pos := "law.go:81", after := #[{ on := 9, ground := Go.Ground.data }, { on := 10, ground := Go.Ground.data }, { on := 11, ground := Go.Ground.data }, { on := 8, ground := Go.Ground.chain }, { on := 8, ground := Go.Ground.guard }], guard := some (8, false) }) rfl (fun K hK => ?_) AllReadyH.nil
              go_simp
              go_at_call 36
              refine (lunder_any9 h p0 p1 A c _ (O4.out.below HV2.out) HF.out).mono ?_
              rintro e u3 ⟨rfl, hb⟩
              rw [U1.out]
              have HV3 := hid (then_w HV2.out hb)
              refine hK.out _ _ ?_ (fun hH3 => ?_)
              · exact ⟨cell_later hb hH2.1, cell_later hb hH2.2.1, cell_later hb hH2.2.2⟩
              clear hK K
              try simp only [Act.put, List.setIfInBounds_toArray, List.set_cons_zero, List.set_cons_succ]
              clear hb
              refine wpAnyH_take (i := 13) (oi := { dst := some 54, op := Go.Op.move (Go.Operand.tmp 53), type := 4, pos := "law.go:81", after := #[{ on := 12, ground := Go.Ground.data }, { on := 12, ground := Go.Ground.chain }, { on := 8, ground := Go.Ground.guard }], guard := some (8, false) }) (v := ?vv68) rfl (by kernel_rfl) (by kernel_rfl) (by kernel_rfl) (fun _ _ _ h => h) (Or.inl ⟨by rfl, ?hy68⟩) (by assumption) ?rr68
              case hy68 => intro w hSw; (try dsimp only at hSw); go_simp; all_goals with_reducible rfl
              try simp only [Act.put, List.setIfInBounds_toArray, List.set_cons_zero, List.set_cons_succ]
              refine wpAnyH_take (i := 14) (oi := { dst := some 55, op := Go.Op.load 24 (Go.Operand.tmp 3), type := 24, pos := "law.go:81", after := #[{ on := 13, ground := Go.Ground.guard }], guard := some (13, true) }) (v := ?vv69) rfl (by kernel_rfl) (by kernel_rfl) (by kernel_rfl) (fun _ _ _ h => h) (Or.inl ⟨by rfl, ?hy69⟩) (by assumption) ?rr69
              case hy69 => intro w hSw; (try dsimp only at hSw); go_simp; all_goals with_reducible rfl
              try simp only [Act.put, List.setIfInBounds_toArray, List.set_cons_zero, List.set_cons_succ]
              refine wpAnyH_take (i := 15) (oi := { dst := some 56, op := Go.Op.move (Go.Operand.tmp 8), type := 3, pos := "law.go:81", after := #[{ on := 13, ground := Go.Ground.guard }], guard := some (13, true) }) (v := ?vv70) rfl (by kernel_rfl) (by kernel_rfl) (by kernel_rfl) (fun _ _ _ h => h) (Or.inl ⟨by rfl, ?hy70⟩) (by assumption) ?rr70
              case hy70 => intro w hSw; (try dsimp only at hSw); go_simp; all_goals with_reducible rfl
              try simp only [Act.put, List.setIfInBounds_toArray, List.set_cons_zero, List.set_cons_succ]
              refine wpAnyH_take (i := 16) (oi := { dst := some 57, op := Go.Op.move (Go.Operand.tmp 9), type := 3, pos := "law.go:81", after := #[{ on := 13, ground := Go.Ground.guard }], guard := some (13, true) }) (v := ?vv71) rfl (by kernel_rfl) (by kernel_rfl) (by kernel_rfl) (fun _ _ _ h => h) (Or.inl ⟨by rfl, ?hy71⟩) (by assumption) ?rr71
              case hy71 => intro w hSw; (try dsimp only at hSw); go_simp; all_goals with_reducible rfl
              try simp only [Act.put, List.setIfInBounds_toArray, List.set_cons_zero, List.set_cons_succ]
              refine wpAnyH_ready (rs := [17]) (by kernel_rfl) (by simp) ?_
              refine AllReadyH.cons (i := 17) (o := { dst := some 58, op := Go.Op.call { callee := Go.Callee.value (Go.Operand.func 36), args := #[Go.Operand.tmp 55, Go.Operand.tmp 56, Go.Operand.tmp 57], argTypes := #[24, 3, 3] }, type := 4, pos := "law.go:81", after := #[{ on := 14, ground := Go.Ground.data }, { on := 15, ground := Go.Ground.data }, { on := 16, ground := Go.Ground.data }, { on := 13, ground := Go.Ground.chain }, { on := 13, ground := Go.Ground.guard }], guard := some (13, true) }) rfl (fun K hK => ?_) AllReadyH.nil
              go_simp
              go_at_call 36
              refine (lunder_any9 h p1 p2 A c _ (O4.out.below HV3.out) HF.out).mono ?_
              rintro e u4 ⟨rfl, hb⟩
              rw [U2.out]
              have HV4 := hid (then_w HV3.out hb)
              refine hK.out _ _ ?_ (fun hH4 => ?_)
              · exact ⟨cell_later hb hH3.1, cell_later hb hH3.2.1, cell_later hb hH3.2.2⟩
              clear hK K
              try simp only [Act.put, List.setIfInBounds_toArray, List.set_cons_zero, List.set_cons_succ]
              clear hb
              refine wpAnyH_take (i := 18) (oi := { dst := some 59, op := Go.Op.pick (Go.Operand.tmp 54) (Go.Operand.tmp 58) (Go.Operand.const (Go.Value.bool false)), type := 4, pos := "law.go:81", after := #[{ on := 13, ground := Go.Ground.data }, { on := 17, ground := Go.Ground.data }, { on := 8, ground := Go.Ground.guard }], guard := some (8, false) }) (v := ?vv72) rfl (by kernel_rfl) (by kernel_rfl) (by kernel_rfl) (fun _ _ _ h => h) (Or.inl ⟨by rfl, ?hy72⟩) (by assumption) ?rr72
              case hy72 => intro w hSw; (try dsimp only at hSw); go_simp; all_goals with_reducible rfl
              try simp only [Act.put, List.setIfInBounds_toArray, List.set_cons_zero, List.set_cons_succ]
              refine wpAnyH_take (i := 19) (oi := { dst := some 60, op := Go.Op.move (Go.Operand.tmp 59), type := 4, pos := "law.go:81", after := #[{ on := 18, ground := Go.Ground.data }, { on := 17, ground := Go.Ground.chain }, { on := 8, ground := Go.Ground.guard }], guard := some (8, false) }) (v := ?vv73) rfl (by kernel_rfl) (by kernel_rfl) (by kernel_rfl) (fun _ _ _ h => h) (Or.inl ⟨by rfl, ?hy73⟩) (by assumption) ?rr73
              case hy73 => intro w hSw; (try dsimp only at hSw); go_simp; all_goals with_reducible rfl
              try simp only [Act.put, List.setIfInBounds_toArray, List.set_cons_zero, List.set_cons_succ]
              refine wpAnyH_take (i := 20) (oi := { dst := some 61, op := Go.Op.load 24 (Go.Operand.tmp 3), type := 24, pos := "law.go:81", after := #[{ on := 19, ground := Go.Ground.guard }], guard := some (19, true) }) (v := ?vv74) rfl (by kernel_rfl) (by kernel_rfl) (by kernel_rfl) (fun _ _ _ h => h) (Or.inl ⟨by rfl, ?hy74⟩) (by assumption) ?rr74
              case hy74 => intro w hSw; (try dsimp only at hSw); go_simp; all_goals with_reducible rfl
              try simp only [Act.put, List.setIfInBounds_toArray, List.set_cons_zero, List.set_cons_succ]
              refine wpAnyH_take (i := 21) (oi := { dst := some 62, op := Go.Op.move (Go.Operand.tmp 9), type := 3, pos := "law.go:81", after := #[{ on := 19, ground := Go.Ground.guard }], guard := some (19, true) }) (v := ?vv75) rfl (by kernel_rfl) (by kernel_rfl) (by kernel_rfl) (fun _ _ _ h => h) (Or.inl ⟨by rfl, ?hy75⟩) (by assumption) ?rr75
              case hy75 => intro w hSw; (try dsimp only at hSw); go_simp; all_goals with_reducible rfl
              try simp only [Act.put, List.setIfInBounds_toArray, List.set_cons_zero, List.set_cons_succ]
              refine wpAnyH_ready (rs := [22]) (by kernel_rfl) (by simp) ?_
              refine AllReadyH.cons (i := 22) (o := { dst := some 63, op := Go.Op.call { callee := Go.Callee.value (Go.Operand.func 37), args := #[Go.Operand.tmp 61, Go.Operand.tmp 62], argTypes := #[24, 3] }, type := 4, pos := "law.go:81", after := #[{ on := 20, ground := Go.Ground.data }, { on := 21, ground := Go.Ground.data }, { on := 19, ground := Go.Ground.chain }, { on := 19, ground := Go.Ground.guard }], guard := some (19, true) }) rfl (fun K hK => ?_) AllReadyH.nil
              go_simp
              go_at_call 37
              refine (rclass_any9 h p2 A c _ (O4.out.below HV4.out) HF.out).mono ?_
              rintro e u5 ⟨rfl, hb⟩
              rw [U3.out]
              have HV5 := hid (then_w HV4.out hb)
              refine hK.out _ _ ?_ (fun hH5 => ?_)
              · exact ⟨cell_later hb hH4.1, cell_later hb hH4.2.1, cell_later hb hH4.2.2⟩
              clear hK K
              try simp only [Act.put, List.setIfInBounds_toArray, List.set_cons_zero, List.set_cons_succ]
              clear hb
              refine wpAnyH_take (i := 23) (oi := { dst := some 64, op := Go.Op.pick (Go.Operand.tmp 60) (Go.Operand.tmp 63) (Go.Operand.const (Go.Value.bool false)), type := 4, pos := "law.go:81", after := #[{ on := 19, ground := Go.Ground.data }, { on := 22, ground := Go.Ground.data }, { on := 8, ground := Go.Ground.guard }], guard := some (8, false) }) (v := ?vv76) rfl (by kernel_rfl) (by kernel_rfl) (by kernel_rfl) (fun _ _ _ h => h) (Or.inl ⟨by rfl, ?hy76⟩) (by assumption) ?rr76
              case hy76 => intro w hSw; (try dsimp only at hSw); go_simp; all_goals with_reducible rfl
              try simp only [Act.put, List.setIfInBounds_toArray, List.set_cons_zero, List.set_cons_succ]
              refine wpAnyH_take (i := 24) (oi := { dst := some 65, op := Go.Op.move (Go.Operand.tmp 64), type := 4, pos := "law.go:81", after := #[{ on := 23, ground := Go.Ground.data }, { on := 22, ground := Go.Ground.chain }, { on := 8, ground := Go.Ground.guard }], guard := some (8, false) }) (v := ?vv77) rfl (by kernel_rfl) (by kernel_rfl) (by kernel_rfl) (fun _ _ _ h => h) (Or.inl ⟨by rfl, ?hy77⟩) (by assumption) ?rr77
              case hy77 => intro w hSw; (try dsimp only at hSw); go_simp; all_goals with_reducible rfl
              try simp only [Act.put, List.setIfInBounds_toArray, List.set_cons_zero, List.set_cons_succ]
              refine wpAnyH_take (i := 25) (oi := { dst := some 66, op := Go.Op.load 24 (Go.Operand.tmp 3), type := 24, pos := "law.go:81", after := #[{ on := 24, ground := Go.Ground.guard }], guard := some (24, true) }) (v := undef) rfl (by kernel_rfl) (by kernel_rfl) (by kernel_rfl) (fun _ _ _ h => h) (Or.inr ⟨by rfl, rfl⟩) (by assumption) ?_
              try simp only [Act.put, List.setIfInBounds_toArray, List.set_cons_zero, List.set_cons_succ]
              refine wpAnyH_take (i := 26) (oi := { dst := some 67, op := Go.Op.move (Go.Operand.tmp 7), type := 3, pos := "law.go:81", after := #[{ on := 24, ground := Go.Ground.guard }], guard := some (24, true) }) (v := undef) rfl (by kernel_rfl) (by kernel_rfl) (by kernel_rfl) (fun _ _ _ h => h) (Or.inr ⟨by rfl, rfl⟩) (by assumption) ?_
              try simp only [Act.put, List.setIfInBounds_toArray, List.set_cons_zero, List.set_cons_succ]
              refine wpAnyH_take (i := 27) (oi := { dst := some 68, op := Go.Op.move (Go.Operand.tmp 9), type := 3, pos := "law.go:81", after := #[{ on := 24, ground := Go.Ground.guard }], guard := some (24, true) }) (v := undef) rfl (by kernel_rfl) (by kernel_rfl) (by kernel_rfl) (fun _ _ _ h => h) (Or.inr ⟨by rfl, rfl⟩) (by assumption) ?_
              try simp only [Act.put, List.setIfInBounds_toArray, List.set_cons_zero, List.set_cons_succ]
              refine wpAnyH_take (i := 28) (oi := { dst := some 69, op := Go.Op.call { callee := Go.Callee.value (Go.Operand.func 36), args := #[Go.Operand.tmp 66, Go.Operand.tmp 67, Go.Operand.tmp 68], argTypes := #[24, 3, 3] }, type := 4, pos := "law.go:81", after := #[{ on := 25, ground := Go.Ground.data }, { on := 26, ground := Go.Ground.data }, { on := 27, ground := Go.Ground.data }, { on := 24, ground := Go.Ground.chain }, { on := 24, ground := Go.Ground.guard }], guard := some (24, true) }) (v := undef) rfl (by kernel_rfl) (by kernel_rfl) (by kernel_rfl) (fun _ _ _ h => h) (Or.inr ⟨by rfl, rfl⟩) (by assumption) ?_
              try simp only [Act.put, List.setIfInBounds_toArray, List.set_cons_zero, List.set_cons_succ]
              refine wpAnyH_take (i := 29) (oi := { dst := some 70, op := Go.Op.unOp Go.UnOp.not 4 (Go.Operand.tmp 69), type := 4, pos := "law.go:81", after := #[{ on := 28, ground := Go.Ground.data }, { on := 24, ground := Go.Ground.guard }], guard := some (24, true) }) (v := undef) rfl (by kernel_rfl) (by kernel_rfl) (by kernel_rfl) (fun _ _ _ h => h) (Or.inr ⟨by rfl, rfl⟩) (by assumption) ?_
              try simp only [Act.put, List.setIfInBounds_toArray, List.set_cons_zero, List.set_cons_succ]
              refine wpAnyH_take (i := 30) (oi := { dst := some 71, op := Go.Op.pick (Go.Operand.tmp 65) (Go.Operand.tmp 70) (Go.Operand.const (Go.Value.bool false)), type := 4, pos := "law.go:81", after := #[{ on := 24, ground := Go.Ground.data }, { on := 29, ground := Go.Ground.data }, { on := 8, ground := Go.Ground.guard }], guard := some (8, false) }) (v := ?vv83) rfl (by kernel_rfl) (by kernel_rfl) (by kernel_rfl) (fun _ _ _ h => h) (Or.inl ⟨by rfl, ?hy83⟩) (by assumption) ?rr83
              case hy83 => intro w hSw; (try dsimp only at hSw); go_simp; all_goals with_reducible rfl
              try simp only [Act.put, List.setIfInBounds_toArray, List.set_cons_zero, List.set_cons_succ]
              refine wpAnyH_take (i := 31) (oi := { dst := some 72, op := Go.Op.pick (Go.Operand.tmp 49) (Go.Operand.const (Go.Value.bool true)) (Go.Operand.tmp 71), type := 4, pos := "law.go:81", after := #[{ on := 8, ground := Go.Ground.data }, { on := 30, ground := Go.Ground.data }], guard := none }) (v := ?vv84) rfl (by kernel_rfl) (by kernel_rfl) (by kernel_rfl) (fun _ _ _ h => h) (Or.inl ⟨by rfl, ?hy84⟩) (by assumption) ?rr84
              case hy84 => intro w hSw; (try dsimp only at hSw); go_simp; all_goals with_reducible rfl
              try simp only [Act.put, List.setIfInBounds_toArray, List.set_cons_zero, List.set_cons_succ]
              refine wpAnyH_done (by kernel_rfl) ?_ _
              obtain ⟨w5, hw⟩ : ∃ u, u = u5 := ⟨_, rfl⟩
              have hb := HV5.out
              rw [← hw] at hb ⊢
              have HB5 := hid (HB4.out.trans (hb.mono HB4.out.size))
              have X5 := hid (X4.out.later hb)
              have V5 := hid (V4.out.later hb)
              have O5 := hid (O4.out.below hb)
              clear hb hw HV1 HV2 HV3 HV4 HV5 hH0 hH1 hH2 hH3 hH4 hH5 x0 x1 x2 v0 v1 v2
              have x0 := X5.out.cell 0
              have x1 := X5.out.cell 1
              have x2 := X5.out.cell 2
              have v0 := V5.out.cell 0
              have v1 := V5.out.cell 1
              have v2 := V5.out.cell 2
              simp only [List.getElem?_toArray, List.getElem?_cons_zero, List.getElem?_cons_succ] at x0 x1 x2 v0 v1 v2
              obtain ⟨eb, heb⟩ : ∃ x, x = (lk9 h p1 s).2.2 := ⟨_, rfl⟩
              obtain ⟨ea, hea⟩ : ∃ x, x = (lk9 h p0 s).2.2 := ⟨_, rfl⟩
              have HEB := hid heb
              have HEA := hid hea
              clear heb hea
              go_wp2_with fail
              refine (lfind_any9 h p1 s A c _ O5.out HF.out).mono ?_
              rintro e w6 ⟨rfl, hb⟩
              rw [← HEB.out]
              have HB6 := hid (HB5.out.trans (hb.mono HB5.out.size))
              have X6 := hid (X5.out.later hb)
              have V6 := hid (V5.out.later hb)
              have O6 := hid (O5.out.below hb)
              clear x0 x1 x2 v0 v1 v2
              clear hb
              have x0 := X6.out.cell 0
              have x1 := X6.out.cell 1
              have x2 := X6.out.cell 2
              have v0 := V6.out.cell 0
              have v1 := V6.out.cell 1
              have v2 := V6.out.cell 2
              simp only [List.getElem?_toArray, List.getElem?_cons_zero, List.getElem?_cons_succ] at x0 x1 x2 v0 v1 v2
              go_wp2_with fail
              refine (lfind_any9 h p0 s A c _ O6.out HF.out).mono ?_
              rintro e w7 ⟨rfl, hb⟩
              rw [← HEA.out]
              have HB7 := hid (HB6.out.trans (hb.mono HB6.out.size))
              have X7 := hid (X6.out.later hb)
              have V7 := hid (V6.out.later hb)
              have O7 := hid (O6.out.below hb)
              clear x0 x1 x2 v0 v1 v2
              clear hb
              have x0 := X7.out.cell 0
              have x1 := X7.out.cell 1
              have x2 := X7.out.cell 2
              have v0 := V7.out.cell 0
              have v1 := V7.out.cell 1
              have v2 := V7.out.cell 2
              simp only [List.getElem?_toArray, List.getElem?_cons_zero, List.getElem?_cons_succ] at x0 x1 x2 v0 v1 v2
              go_wp2_with fail
              refine (lunder_any9 h p0 p1 A c _ O7.out HF.out).mono ?_
              rintro e w8 ⟨rfl, hb⟩
              rw [U1.out]
              have HB8 := hid (HB7.out.trans (hb.mono HB7.out.size))
              have X8 := hid (X7.out.later hb)
              have V8 := hid (V7.out.later hb)
              have O8 := hid (O7.out.below hb)
              clear x0 x1 x2 v0 v1 v2
              clear hb
              have x0 := X8.out.cell 0
              have x1 := X8.out.cell 1
              have x2 := X8.out.cell 2
              have v0 := V8.out.cell 0
              have v1 := V8.out.cell 1
              have v2 := V8.out.cell 2
              simp only [List.getElem?_toArray, List.getElem?_cons_zero, List.getElem?_cons_succ] at x0 x1 x2 v0 v1 v2
              by_cases h0 : eb = 0
              · have EA : ea = 0 := by
                  rw [HEA.out, lk9_may HM.out]
                  rw [h0, lk9_may HM.out] at HEB
                  exact fi9_under (by have := HN.out; omega) U1.out HEB.out.symm
                subst h0
                subst EA
                go_wp2_with fail
                go_ret
                exact ⟨rfl, HB8.out⟩
              · have h0B : (eb == 0) = false := beq_eq_false_iff_ne.2 h0
                go_wp2_with fail
                go_ret
                exact ⟨rfl, HB8.out⟩
            · have U3 := hid u3
              clear u3
              refine wp_region_held_drew (S := (fun w' => w'.cell? ⟨w.heap.size, 0, none⟩ = some (.slice A h.objs.length c) ∧ w'.cell? ⟨w.heap.size, 1, none⟩ = some (.int .i64 h.cap) ∧ w'.cell? ⟨w.heap.size, 2, none⟩ = some (.int .i64 h.last))) (by kernel_rfl) ?_ (fun hH0 => ?_)
              · exact ⟨x0, x1, x2⟩
              refine wpAnyH_take (i := 0) (oi := { dst := some 41, op := Go.Op.load 24 (Go.Operand.tmp 3), type := 24, pos := "law.go:81", after := #[], guard := none }) (v := ?vv85) rfl (by kernel_rfl) (by kernel_rfl) (by kernel_rfl) (fun _ _ _ h => h) (Or.inl ⟨by rfl, ?hy85⟩) (by assumption) ?rr85
              case hy85 => intro w hSw; (try dsimp only at hSw); go_simp; all_goals with_reducible rfl
              try simp only [Act.put, List.setIfInBounds_toArray, List.set_cons_zero, List.set_cons_succ]
              refine wpAnyH_take (i := 1) (oi := { dst := some 42, op := Go.Op.move (Go.Operand.tmp 7), type := 3, pos := "law.go:81", after := #[], guard := none }) (v := ?vv86) rfl (by kernel_rfl) (by kernel_rfl) (by kernel_rfl) (fun _ _ _ h => h) (Or.inl ⟨by rfl, ?hy86⟩) (by assumption) ?rr86
              case hy86 => intro w hSw; (try dsimp only at hSw); go_simp; all_goals with_reducible rfl
              try simp only [Act.put, List.setIfInBounds_toArray, List.set_cons_zero, List.set_cons_succ]
              refine wpAnyH_take (i := 2) (oi := { dst := some 43, op := Go.Op.move (Go.Operand.tmp 7), type := 3, pos := "law.go:81", after := #[], guard := none }) (v := ?vv87) rfl (by kernel_rfl) (by kernel_rfl) (by kernel_rfl) (fun _ _ _ h => h) (Or.inl ⟨by rfl, ?hy87⟩) (by assumption) ?rr87
              case hy87 => intro w hSw; (try dsimp only at hSw); go_simp; all_goals with_reducible rfl
              try simp only [Act.put, List.setIfInBounds_toArray, List.set_cons_zero, List.set_cons_succ]
              refine wpAnyH_take (i := 4) (oi := { dst := some 45, op := Go.Op.load 24 (Go.Operand.tmp 3), type := 24, pos := "law.go:81", after := #[], guard := none }) (v := ?vv88) rfl (by kernel_rfl) (by kernel_rfl) (by kernel_rfl) (fun _ _ _ h => h) (Or.inl ⟨by rfl, ?hy88⟩) (by assumption) ?rr88
              case hy88 => intro w hSw; (try dsimp only at hSw); go_simp; all_goals with_reducible rfl
              try simp only [Act.put, List.setIfInBounds_toArray, List.set_cons_zero, List.set_cons_succ]
              refine wpAnyH_take (i := 5) (oi := { dst := some 46, op := Go.Op.move (Go.Operand.tmp 7), type := 3, pos := "law.go:81", after := #[], guard := none }) (v := ?vv89) rfl (by kernel_rfl) (by kernel_rfl) (by kernel_rfl) (fun _ _ _ h => h) (Or.inl ⟨by rfl, ?hy89⟩) (by assumption) ?rr89
              case hy89 => intro w hSw; (try dsimp only at hSw); go_simp; all_goals with_reducible rfl
              try simp only [Act.put, List.setIfInBounds_toArray, List.set_cons_zero, List.set_cons_succ]
              refine wpAnyH_ready (rs := [3]) (by kernel_rfl) (by simp) ?_
              refine AllReadyH.cons (i := 3) (o := { dst := some 44, op := Go.Op.call { callee := Go.Callee.value (Go.Operand.func 36), args := #[Go.Operand.tmp 41, Go.Operand.tmp 42, Go.Operand.tmp 43], argTypes := #[24, 3, 3] }, type := 4, pos := "law.go:81", after := #[{ on := 0, ground := Go.Ground.data }, { on := 1, ground := Go.Ground.data }, { on := 2, ground := Go.Ground.data }], guard := none }) rfl (fun K hK => ?_) AllReadyH.nil
              go_simp
              go_at_call 36
              refine (lunder_any9 h p0 p0 A c _ (O4.out.below (Below.refl w4.heap.size w4).drew) HF.out).mono ?_
              rintro e u1 ⟨rfl, hb⟩
              rw [US.out]
              have HV1 := hid (then_w (Below.refl w4.heap.size w4).drew hb)
              refine hK.out _ _ ?_ (fun hH1 => ?_)
              · exact ⟨cell_later hb hH0.1, cell_later hb hH0.2.1, cell_later hb hH0.2.2⟩
              clear hK K
              try simp only [Act.put, List.setIfInBounds_toArray, List.set_cons_zero, List.set_cons_succ]
              clear hb
              refine wpAnyH_ready (rs := [6]) (by kernel_rfl) (by simp) ?_
              refine AllReadyH.cons (i := 6) (o := { dst := some 47, op := Go.Op.call { callee := Go.Callee.value (Go.Operand.func 37), args := #[Go.Operand.tmp 45, Go.Operand.tmp 46], argTypes := #[24, 3] }, type := 4, pos := "law.go:81", after := #[{ on := 4, ground := Go.Ground.data }, { on := 5, ground := Go.Ground.data }, { on := 3, ground := Go.Ground.chain }], guard := none }) rfl (fun K hK => ?_) AllReadyH.nil
              go_simp
              go_at_call 37
              refine (rclass_any9 h p0 A c _ (O4.out.below HV1.out) HF.out).mono ?_
              rintro e u2 ⟨rfl, hb⟩
              rw [← HCL.out]
              have HV2 := hid (then_w HV1.out hb)
              refine hK.out _ _ ?_ (fun hH2 => ?_)
              · exact ⟨cell_later hb hH1.1, cell_later hb hH1.2.1, cell_later hb hH1.2.2⟩
              clear hK K
              try simp only [Act.put, List.setIfInBounds_toArray, List.set_cons_zero, List.set_cons_succ]
              clear hb
              refine wpAnyH_take (i := 7) (oi := { dst := some 48, op := Go.Op.binOp Go.BinOp.neq 4 (Go.Operand.tmp 44) (Go.Operand.tmp 47) 4, type := 4, pos := "law.go:81", after := #[{ on := 3, ground := Go.Ground.data }, { on := 6, ground := Go.Ground.data }], guard := none }) (v := ?vv90) rfl (by kernel_rfl) (by kernel_rfl) (by kernel_rfl) (fun _ _ _ h => h) (Or.inl ⟨by rfl, ?hy90⟩) (by assumption) ?rr90
              case hy90 => intro w hSw; (try dsimp only at hSw); go_simp; all_goals with_reducible rfl
              try simp only [Act.put, List.setIfInBounds_toArray, List.set_cons_zero, List.set_cons_succ]
              refine wpAnyH_take (i := 8) (oi := { dst := some 49, op := Go.Op.move (Go.Operand.tmp 48), type := 4, pos := "law.go:81", after := #[{ on := 7, ground := Go.Ground.data }, { on := 6, ground := Go.Ground.chain }], guard := none }) (v := ?vv91) rfl (by kernel_rfl) (by kernel_rfl) (by kernel_rfl) (fun _ _ _ h => h) (Or.inl ⟨by rfl, ?hy91⟩) (by assumption) ?rr91
              case hy91 => intro w hSw; (try dsimp only at hSw); go_simp; all_goals with_reducible rfl
              try simp only [Act.put, List.setIfInBounds_toArray, List.set_cons_zero, List.set_cons_succ]
              refine wpAnyH_take (i := 9) (oi := { dst := some 50, op := Go.Op.load 24 (Go.Operand.tmp 3), type := 24, pos := "law.go:81", after := #[{ on := 8, ground := Go.Ground.guard }], guard := some (8, false) }) (v := ?vv92) rfl (by kernel_rfl) (by kernel_rfl) (by kernel_rfl) (fun _ _ _ h => h) (Or.inl ⟨by rfl, ?hy92⟩) (by assumption) ?rr92
              case hy92 => intro w hSw; (try dsimp only at hSw); go_simp; all_goals with_reducible rfl
              try simp only [Act.put, List.setIfInBounds_toArray, List.set_cons_zero, List.set_cons_succ]
              refine wpAnyH_take (i := 10) (oi := { dst := some 51, op := Go.Op.move (Go.Operand.tmp 7), type := 3, pos := "law.go:81", after := #[{ on := 8, ground := Go.Ground.guard }], guard := some (8, false) }) (v := ?vv93) rfl (by kernel_rfl) (by kernel_rfl) (by kernel_rfl) (fun _ _ _ h => h) (Or.inl ⟨by rfl, ?hy93⟩) (by assumption) ?rr93
              case hy93 => intro w hSw; (try dsimp only at hSw); go_simp; all_goals with_reducible rfl
              try simp only [Act.put, List.setIfInBounds_toArray, List.set_cons_zero, List.set_cons_succ]
              refine wpAnyH_take (i := 11) (oi := { dst := some 52, op := Go.Op.move (Go.Operand.tmp 8), type := 3, pos := "law.go:81", after := #[{ on := 8, ground := Go.Ground.guard }], guard := some (8, false) }) (v := ?vv94) rfl (by kernel_rfl) (by kernel_rfl) (by kernel_rfl) (fun _ _ _ h => h) (Or.inl ⟨by rfl, ?hy94⟩) (by assumption) ?rr94
              case hy94 => intro w hSw; (try dsimp only at hSw); go_simp; all_goals with_reducible rfl
              try simp only [Act.put, List.setIfInBounds_toArray, List.set_cons_zero, List.set_cons_succ]
              refine wpAnyH_ready (rs := [12]) (by kernel_rfl) (by simp) ?_
              refine AllReadyH.cons (i := 12) (o := { dst := some 53, op := Go.Op.call { callee := Go.Callee.value (Go.Operand.func 36), args := #[Go.Operand.tmp 50, Go.Operand.tmp 51, Go.Operand.tmp 52], argTypes := #[24, 3, 3] }, type := 4, pos := "law.go:81", after := #[{ on := 9, ground := Go.Ground.data }, { on := 10, ground := Go.Ground.data }, { on := 11, ground := Go.Ground.data }, { on := 8, ground := Go.Ground.chain }, { on := 8, ground := Go.Ground.guard }], guard := some (8, false) }) rfl (fun K hK => ?_) AllReadyH.nil
              go_simp
              go_at_call 36
              refine (lunder_any9 h p0 p1 A c _ (O4.out.below HV2.out) HF.out).mono ?_
              rintro e u3 ⟨rfl, hb⟩
              rw [U1.out]
              have HV3 := hid (then_w HV2.out hb)
              refine hK.out _ _ ?_ (fun hH3 => ?_)
              · exact ⟨cell_later hb hH2.1, cell_later hb hH2.2.1, cell_later hb hH2.2.2⟩
              clear hK K
              try simp only [Act.put, List.setIfInBounds_toArray, List.set_cons_zero, List.set_cons_succ]
              clear hb
              refine wpAnyH_take (i := 13) (oi := { dst := some 54, op := Go.Op.move (Go.Operand.tmp 53), type := 4, pos := "law.go:81", after := #[{ on := 12, ground := Go.Ground.data }, { on := 12, ground := Go.Ground.chain }, { on := 8, ground := Go.Ground.guard }], guard := some (8, false) }) (v := ?vv95) rfl (by kernel_rfl) (by kernel_rfl) (by kernel_rfl) (fun _ _ _ h => h) (Or.inl ⟨by rfl, ?hy95⟩) (by assumption) ?rr95
              case hy95 => intro w hSw; (try dsimp only at hSw); go_simp; all_goals with_reducible rfl
              try simp only [Act.put, List.setIfInBounds_toArray, List.set_cons_zero, List.set_cons_succ]
              refine wpAnyH_take (i := 14) (oi := { dst := some 55, op := Go.Op.load 24 (Go.Operand.tmp 3), type := 24, pos := "law.go:81", after := #[{ on := 13, ground := Go.Ground.guard }], guard := some (13, true) }) (v := ?vv96) rfl (by kernel_rfl) (by kernel_rfl) (by kernel_rfl) (fun _ _ _ h => h) (Or.inl ⟨by rfl, ?hy96⟩) (by assumption) ?rr96
              case hy96 => intro w hSw; (try dsimp only at hSw); go_simp; all_goals with_reducible rfl
              try simp only [Act.put, List.setIfInBounds_toArray, List.set_cons_zero, List.set_cons_succ]
              refine wpAnyH_take (i := 15) (oi := { dst := some 56, op := Go.Op.move (Go.Operand.tmp 8), type := 3, pos := "law.go:81", after := #[{ on := 13, ground := Go.Ground.guard }], guard := some (13, true) }) (v := ?vv97) rfl (by kernel_rfl) (by kernel_rfl) (by kernel_rfl) (fun _ _ _ h => h) (Or.inl ⟨by rfl, ?hy97⟩) (by assumption) ?rr97
              case hy97 => intro w hSw; (try dsimp only at hSw); go_simp; all_goals with_reducible rfl
              try simp only [Act.put, List.setIfInBounds_toArray, List.set_cons_zero, List.set_cons_succ]
              refine wpAnyH_take (i := 16) (oi := { dst := some 57, op := Go.Op.move (Go.Operand.tmp 9), type := 3, pos := "law.go:81", after := #[{ on := 13, ground := Go.Ground.guard }], guard := some (13, true) }) (v := ?vv98) rfl (by kernel_rfl) (by kernel_rfl) (by kernel_rfl) (fun _ _ _ h => h) (Or.inl ⟨by rfl, ?hy98⟩) (by assumption) ?rr98
              case hy98 => intro w hSw; (try dsimp only at hSw); go_simp; all_goals with_reducible rfl
              try simp only [Act.put, List.setIfInBounds_toArray, List.set_cons_zero, List.set_cons_succ]
              refine wpAnyH_ready (rs := [17]) (by kernel_rfl) (by simp) ?_
              refine AllReadyH.cons (i := 17) (o := { dst := some 58, op := Go.Op.call { callee := Go.Callee.value (Go.Operand.func 36), args := #[Go.Operand.tmp 55, Go.Operand.tmp 56, Go.Operand.tmp 57], argTypes := #[24, 3, 3] }, type := 4, pos := "law.go:81", after := #[{ on := 14, ground := Go.Ground.data }, { on := 15, ground := Go.Ground.data }, { on := 16, ground := Go.Ground.data }, { on := 13, ground := Go.Ground.chain }, { on := 13, ground := Go.Ground.guard }], guard := some (13, true) }) rfl (fun K hK => ?_) AllReadyH.nil
              go_simp
              go_at_call 36
              refine (lunder_any9 h p1 p2 A c _ (O4.out.below HV3.out) HF.out).mono ?_
              rintro e u4 ⟨rfl, hb⟩
              rw [U2.out]
              have HV4 := hid (then_w HV3.out hb)
              refine hK.out _ _ ?_ (fun hH4 => ?_)
              · exact ⟨cell_later hb hH3.1, cell_later hb hH3.2.1, cell_later hb hH3.2.2⟩
              clear hK K
              try simp only [Act.put, List.setIfInBounds_toArray, List.set_cons_zero, List.set_cons_succ]
              clear hb
              refine wpAnyH_take (i := 18) (oi := { dst := some 59, op := Go.Op.pick (Go.Operand.tmp 54) (Go.Operand.tmp 58) (Go.Operand.const (Go.Value.bool false)), type := 4, pos := "law.go:81", after := #[{ on := 13, ground := Go.Ground.data }, { on := 17, ground := Go.Ground.data }, { on := 8, ground := Go.Ground.guard }], guard := some (8, false) }) (v := ?vv99) rfl (by kernel_rfl) (by kernel_rfl) (by kernel_rfl) (fun _ _ _ h => h) (Or.inl ⟨by rfl, ?hy99⟩) (by assumption) ?rr99
              case hy99 => intro w hSw; (try dsimp only at hSw); go_simp; all_goals with_reducible rfl
              try simp only [Act.put, List.setIfInBounds_toArray, List.set_cons_zero, List.set_cons_succ]
              refine wpAnyH_take (i := 19) (oi := { dst := some 60, op := Go.Op.move (Go.Operand.tmp 59), type := 4, pos := "law.go:81", after := #[{ on := 18, ground := Go.Ground.data }, { on := 17, ground := Go.Ground.chain }, { on := 8, ground := Go.Ground.guard }], guard := some (8, false) }) (v := ?vv100) rfl (by kernel_rfl) (by kernel_rfl) (by kernel_rfl) (fun _ _ _ h => h) (Or.inl ⟨by rfl, ?hy100⟩) (by assumption) ?rr100
              case hy100 => intro w hSw; (try dsimp only at hSw); go_simp; all_goals with_reducible rfl
              try simp only [Act.put, List.setIfInBounds_toArray, List.set_cons_zero, List.set_cons_succ]
              refine wpAnyH_take (i := 20) (oi := { dst := some 61, op := Go.Op.load 24 (Go.Operand.tmp 3), type := 24, pos := "law.go:81", after := #[{ on := 19, ground := Go.Ground.guard }], guard := some (19, true) }) (v := ?vv101) rfl (by kernel_rfl) (by kernel_rfl) (by kernel_rfl) (fun _ _ _ h => h) (Or.inl ⟨by rfl, ?hy101⟩) (by assumption) ?rr101
              case hy101 => intro w hSw; (try dsimp only at hSw); go_simp; all_goals with_reducible rfl
              try simp only [Act.put, List.setIfInBounds_toArray, List.set_cons_zero, List.set_cons_succ]
              refine wpAnyH_take (i := 21) (oi := { dst := some 62, op := Go.Op.move (Go.Operand.tmp 9), type := 3, pos := "law.go:81", after := #[{ on := 19, ground := Go.Ground.guard }], guard := some (19, true) }) (v := ?vv102) rfl (by kernel_rfl) (by kernel_rfl) (by kernel_rfl) (fun _ _ _ h => h) (Or.inl ⟨by rfl, ?hy102⟩) (by assumption) ?rr102
              case hy102 => intro w hSw; (try dsimp only at hSw); go_simp; all_goals with_reducible rfl
              try simp only [Act.put, List.setIfInBounds_toArray, List.set_cons_zero, List.set_cons_succ]
              refine wpAnyH_ready (rs := [22]) (by kernel_rfl) (by simp) ?_
              refine AllReadyH.cons (i := 22) (o := { dst := some 63, op := Go.Op.call { callee := Go.Callee.value (Go.Operand.func 37), args := #[Go.Operand.tmp 61, Go.Operand.tmp 62], argTypes := #[24, 3] }, type := 4, pos := "law.go:81", after := #[{ on := 20, ground := Go.Ground.data }, { on := 21, ground := Go.Ground.data }, { on := 19, ground := Go.Ground.chain }, { on := 19, ground := Go.Ground.guard }], guard := some (19, true) }) rfl (fun K hK => ?_) AllReadyH.nil
              go_simp
              go_at_call 37
              refine (rclass_any9 h p2 A c _ (O4.out.below HV4.out) HF.out).mono ?_
              rintro e u5 ⟨rfl, hb⟩
              rw [U3.out]
              have HV5 := hid (then_w HV4.out hb)
              refine hK.out _ _ ?_ (fun hH5 => ?_)
              · exact ⟨cell_later hb hH4.1, cell_later hb hH4.2.1, cell_later hb hH4.2.2⟩
              clear hK K
              try simp only [Act.put, List.setIfInBounds_toArray, List.set_cons_zero, List.set_cons_succ]
              clear hb
              refine wpAnyH_take (i := 23) (oi := { dst := some 64, op := Go.Op.pick (Go.Operand.tmp 60) (Go.Operand.tmp 63) (Go.Operand.const (Go.Value.bool false)), type := 4, pos := "law.go:81", after := #[{ on := 19, ground := Go.Ground.data }, { on := 22, ground := Go.Ground.data }, { on := 8, ground := Go.Ground.guard }], guard := some (8, false) }) (v := ?vv103) rfl (by kernel_rfl) (by kernel_rfl) (by kernel_rfl) (fun _ _ _ h => h) (Or.inl ⟨by rfl, ?hy103⟩) (by assumption) ?rr103
              case hy103 => intro w hSw; (try dsimp only at hSw); go_simp; all_goals with_reducible rfl
              try simp only [Act.put, List.setIfInBounds_toArray, List.set_cons_zero, List.set_cons_succ]
              refine wpAnyH_take (i := 24) (oi := { dst := some 65, op := Go.Op.move (Go.Operand.tmp 64), type := 4, pos := "law.go:81", after := #[{ on := 23, ground := Go.Ground.data }, { on := 22, ground := Go.Ground.chain }, { on := 8, ground := Go.Ground.guard }], guard := some (8, false) }) (v := ?vv104) rfl (by kernel_rfl) (by kernel_rfl) (by kernel_rfl) (fun _ _ _ h => h) (Or.inl ⟨by rfl, ?hy104⟩) (by assumption) ?rr104
              case hy104 => intro w hSw; (try dsimp only at hSw); go_simp; all_goals with_reducible rfl
              try simp only [Act.put, List.setIfInBounds_toArray, List.set_cons_zero, List.set_cons_succ]
              refine wpAnyH_take (i := 25) (oi := { dst := some 66, op := Go.Op.load 24 (Go.Operand.tmp 3), type := 24, pos := "law.go:81", after := #[{ on := 24, ground := Go.Ground.guard }], guard := some (24, true) }) (v := ?vv105) rfl (by kernel_rfl) (by kernel_rfl) (by kernel_rfl) (fun _ _ _ h => h) (Or.inl ⟨by rfl, ?hy105⟩) (by assumption) ?rr105
              case hy105 => intro w hSw; (try dsimp only at hSw); go_simp; all_goals with_reducible rfl
              try simp only [Act.put, List.setIfInBounds_toArray, List.set_cons_zero, List.set_cons_succ]
              refine wpAnyH_take (i := 26) (oi := { dst := some 67, op := Go.Op.move (Go.Operand.tmp 7), type := 3, pos := "law.go:81", after := #[{ on := 24, ground := Go.Ground.guard }], guard := some (24, true) }) (v := ?vv106) rfl (by kernel_rfl) (by kernel_rfl) (by kernel_rfl) (fun _ _ _ h => h) (Or.inl ⟨by rfl, ?hy106⟩) (by assumption) ?rr106
              case hy106 => intro w hSw; (try dsimp only at hSw); go_simp; all_goals with_reducible rfl
              try simp only [Act.put, List.setIfInBounds_toArray, List.set_cons_zero, List.set_cons_succ]
              refine wpAnyH_take (i := 27) (oi := { dst := some 68, op := Go.Op.move (Go.Operand.tmp 9), type := 3, pos := "law.go:81", after := #[{ on := 24, ground := Go.Ground.guard }], guard := some (24, true) }) (v := ?vv107) rfl (by kernel_rfl) (by kernel_rfl) (by kernel_rfl) (fun _ _ _ h => h) (Or.inl ⟨by rfl, ?hy107⟩) (by assumption) ?rr107
              case hy107 => intro w hSw; (try dsimp only at hSw); go_simp; all_goals with_reducible rfl
              try simp only [Act.put, List.setIfInBounds_toArray, List.set_cons_zero, List.set_cons_succ]
              refine wpAnyH_ready (rs := [28]) (by kernel_rfl) (by simp) ?_
              refine AllReadyH.cons (i := 28) (o := { dst := some 69, op := Go.Op.call { callee := Go.Callee.value (Go.Operand.func 36), args := #[Go.Operand.tmp 66, Go.Operand.tmp 67, Go.Operand.tmp 68], argTypes := #[24, 3, 3] }, type := 4, pos := "law.go:81", after := #[{ on := 25, ground := Go.Ground.data }, { on := 26, ground := Go.Ground.data }, { on := 27, ground := Go.Ground.data }, { on := 24, ground := Go.Ground.chain }, { on := 24, ground := Go.Ground.guard }], guard := some (24, true) }) rfl (fun K hK => ?_) AllReadyH.nil
              go_simp
              go_at_call 36
              refine (lunder_any9 h p0 p2 A c _ (O4.out.below HV5.out) HF.out).mono ?_
              rintro e u6 ⟨rfl, hb⟩
              rw [U4.out]
              have HV6 := hid (then_w HV5.out hb)
              refine hK.out _ _ ?_ (fun hH6 => ?_)
              · exact ⟨cell_later hb hH5.1, cell_later hb hH5.2.1, cell_later hb hH5.2.2⟩
              clear hK K
              try simp only [Act.put, List.setIfInBounds_toArray, List.set_cons_zero, List.set_cons_succ]
              clear hb
              refine wpAnyH_take (i := 29) (oi := { dst := some 70, op := Go.Op.unOp Go.UnOp.not 4 (Go.Operand.tmp 69), type := 4, pos := "law.go:81", after := #[{ on := 28, ground := Go.Ground.data }, { on := 24, ground := Go.Ground.guard }], guard := some (24, true) }) (v := ?vv108) rfl (by kernel_rfl) (by kernel_rfl) (by kernel_rfl) (fun _ _ _ h => h) (Or.inl ⟨by rfl, ?hy108⟩) (by assumption) ?rr108
              case hy108 => intro w hSw; (try dsimp only at hSw); go_simp; all_goals with_reducible rfl
              try simp only [Act.put, List.setIfInBounds_toArray, List.set_cons_zero, List.set_cons_succ]
              refine wpAnyH_take (i := 30) (oi := { dst := some 71, op := Go.Op.pick (Go.Operand.tmp 65) (Go.Operand.tmp 70) (Go.Operand.const (Go.Value.bool false)), type := 4, pos := "law.go:81", after := #[{ on := 24, ground := Go.Ground.data }, { on := 29, ground := Go.Ground.data }, { on := 8, ground := Go.Ground.guard }], guard := some (8, false) }) (v := ?vv109) rfl (by kernel_rfl) (by kernel_rfl) (by kernel_rfl) (fun _ _ _ h => h) (Or.inl ⟨by rfl, ?hy109⟩) (by assumption) ?rr109
              case hy109 => intro w hSw; (try dsimp only at hSw); go_simp; all_goals with_reducible rfl
              try simp only [Act.put, List.setIfInBounds_toArray, List.set_cons_zero, List.set_cons_succ]
              refine wpAnyH_take (i := 31) (oi := { dst := some 72, op := Go.Op.pick (Go.Operand.tmp 49) (Go.Operand.const (Go.Value.bool true)) (Go.Operand.tmp 71), type := 4, pos := "law.go:81", after := #[{ on := 8, ground := Go.Ground.data }, { on := 30, ground := Go.Ground.data }], guard := none }) (v := ?vv110) rfl (by kernel_rfl) (by kernel_rfl) (by kernel_rfl) (fun _ _ _ h => h) (Or.inl ⟨by rfl, ?hy110⟩) (by assumption) ?rr110
              case hy110 => intro w hSw; (try dsimp only at hSw); go_simp; all_goals with_reducible rfl
              try simp only [Act.put, List.setIfInBounds_toArray, List.set_cons_zero, List.set_cons_succ]
              refine wpAnyH_done (by kernel_rfl) ?_ _
              obtain ⟨w5, hw⟩ : ∃ u, u = u6 := ⟨_, rfl⟩
              have hb := HV6.out
              rw [← hw] at hb ⊢
              have HB5 := hid (HB4.out.trans (hb.mono HB4.out.size))
              have X5 := hid (X4.out.later hb)
              have V5 := hid (V4.out.later hb)
              have O5 := hid (O4.out.below hb)
              clear hb hw HV1 HV2 HV3 HV4 HV5 HV6 hH0 hH1 hH2 hH3 hH4 hH5 hH6 x0 x1 x2 v0 v1 v2
              have x0 := X5.out.cell 0
              have x1 := X5.out.cell 1
              have x2 := X5.out.cell 2
              have v0 := V5.out.cell 0
              have v1 := V5.out.cell 1
              have v2 := V5.out.cell 2
              simp only [List.getElem?_toArray, List.getElem?_cons_zero, List.getElem?_cons_succ] at x0 x1 x2 v0 v1 v2
              obtain ⟨eb, heb⟩ : ∃ x, x = (lk9 h p1 s).2.2 := ⟨_, rfl⟩
              obtain ⟨ea, hea⟩ : ∃ x, x = (lk9 h p0 s).2.2 := ⟨_, rfl⟩
              have HEB := hid heb
              have HEA := hid hea
              clear heb hea
              go_wp2_with fail
              refine (lfind_any9 h p1 s A c _ O5.out HF.out).mono ?_
              rintro e w6 ⟨rfl, hb⟩
              rw [← HEB.out]
              have HB6 := hid (HB5.out.trans (hb.mono HB5.out.size))
              have X6 := hid (X5.out.later hb)
              have V6 := hid (V5.out.later hb)
              have O6 := hid (O5.out.below hb)
              clear x0 x1 x2 v0 v1 v2
              clear hb
              have x0 := X6.out.cell 0
              have x1 := X6.out.cell 1
              have x2 := X6.out.cell 2
              have v0 := V6.out.cell 0
              have v1 := V6.out.cell 1
              have v2 := V6.out.cell 2
              simp only [List.getElem?_toArray, List.getElem?_cons_zero, List.getElem?_cons_succ] at x0 x1 x2 v0 v1 v2
              go_wp2_with fail
              refine (lfind_any9 h p0 s A c _ O6.out HF.out).mono ?_
              rintro e w7 ⟨rfl, hb⟩
              rw [← HEA.out]
              have HB7 := hid (HB6.out.trans (hb.mono HB6.out.size))
              have X7 := hid (X6.out.later hb)
              have V7 := hid (V6.out.later hb)
              have O7 := hid (O6.out.below hb)
              clear x0 x1 x2 v0 v1 v2
              clear hb
              have x0 := X7.out.cell 0
              have x1 := X7.out.cell 1
              have x2 := X7.out.cell 2
              have v0 := V7.out.cell 0
              have v1 := V7.out.cell 1
              have v2 := V7.out.cell 2
              simp only [List.getElem?_toArray, List.getElem?_cons_zero, List.getElem?_cons_succ] at x0 x1 x2 v0 v1 v2
              go_wp2_with fail
              refine (lunder_any9 h p0 p1 A c _ O7.out HF.out).mono ?_
              rintro e w8 ⟨rfl, hb⟩
              rw [U1.out]
              have HB8 := hid (HB7.out.trans (hb.mono HB7.out.size))
              have X8 := hid (X7.out.later hb)
              have V8 := hid (V7.out.later hb)
              have O8 := hid (O7.out.below hb)
              clear x0 x1 x2 v0 v1 v2
              clear hb
              have x0 := X8.out.cell 0
              have x1 := X8.out.cell 1
              have x2 := X8.out.cell 2
              have v0 := V8.out.cell 0
              have v1 := V8.out.cell 1
              have v2 := V8.out.cell 2
              simp only [List.getElem?_toArray, List.getElem?_cons_zero, List.getElem?_cons_succ] at x0 x1 x2 v0 v1 v2
              by_cases h0 : eb = 0
              · have EA : ea = 0 := by
                  rw [HEA.out, lk9_may HM.out]
                  rw [h0, lk9_may HM.out] at HEB
                  exact fi9_under (by have := HN.out; omega) U1.out HEB.out.symm
                subst h0
                subst EA
                go_wp2_with fail
                go_ret
                exact ⟨rfl, HB8.out⟩
              · have h0B : (eb == 0) = false := beq_eq_false_iff_ne.2 h0
                go_wp2_with fail
                go_ret
                exact ⟨rfl, HB8.out⟩
end Go.Proofs.Ytfdjghllnbiffaa
