/- SnapUnlike walked: whatever heaps and roots, it answers true. -/
import Derived.Test.YthggafdfglojaaaKI8
import Derived.Test.YthggafdfglojaaaRF
import Derived.Test.YthggafdfglojaaaMP
import Derived.Test.YthggafdfglojaaaS
namespace Go.Proofs.Ythggafdfglojaaa
open Go.RowKit
set_option maxRecDepth 100000
set_option maxHeartbeats 1500000 in
theorem unlike8_any (a b : Hp) (xs ys : List Int) (A : Option Addr) (c : Nat) (B : Option Addr) (d : Nat) (P : Option Addr) (p : Nat) (R : Option Addr) (r : Nat) (w : World) (ha : ObsR w A a.objs) (fa : a.Fit) (wa : a.Wd) (hb : ObsR w B b.objs) (fb : b.Fit) (wb : b.Wd) (hx : IntsR w P xs) (lx : xs.length ≤ 9223372036854775807) (hy : IntsR w R ys) (ly : ys.length ≤ 9223372036854775807) :
    Calls Try.prog 13 #[.agg #[.slice A a.objs.length c, .int .i64 a.cap, .int .i64 a.last], .agg #[.slice B b.objs.length d, .int .i64 b.cap, .int .i64 b.last], .agg #[.slice P xs.length p, .slice R ys.length r]] w fun e w' => e = .returned (.bool true) ∧ Below w.heap.size w w' := by
  obtain ⟨w0, hw0⟩ : ∃ u, u = ((w.alloc (.cells #[Value.slice A a.objs.length c, Value.int .i64 a.cap, Value.int .i64 a.last] 24)).alloc (.cells #[Value.slice B b.objs.length d, Value.int .i64 b.cap, Value.int .i64 b.last] 24)).alloc (.cells #[.slice P xs.length p, .slice R ys.length r] 57) := ⟨_, rfl⟩
  have HB0 : Hid (Below w.heap.size w w0) := by show Below _ _ _; rw [hw0]; exact (below_alloc2 w (.cells #[Value.slice A a.objs.length c, Value.int .i64 a.cap, Value.int .i64 a.last] 24) (.cells #[Value.slice B b.objs.length d, Value.int .i64 b.cap, Value.int .i64 b.last] 24)).alloc (by simp; omega) (.cells #[.slice P xs.length p, .slice R ys.length r] 57)
  have X0 : Hid (Lies w0 w.heap.size 24 #[Value.slice A a.objs.length c, Value.int .i64 a.cap, Value.int .i64 a.last]) := by show Lies _ _ _ _; rw [hw0]; exact ((Lies.new w 24 _).alloc _).alloc _
  have Y0 : Hid (Lies w0 (w.heap.size + 1) 24 #[Value.slice B b.objs.length d, Value.int .i64 b.cap, Value.int .i64 b.last]) := by
    show Lies _ _ _ _
    rw [hw0]
    have := (Lies.new (w.alloc (.cells #[Value.slice A a.objs.length c, Value.int .i64 a.cap, Value.int .i64 a.last] 24)) 24 #[Value.slice B b.objs.length d, Value.int .i64 b.cap, Value.int .i64 b.last]).alloc (.cells #[.slice P xs.length p, .slice R ys.length r] 57)
    simpa using this
  have V0 : Hid (Lies w0 (w.heap.size + 1 + 1) 57 #[.slice P xs.length p, .slice R ys.length r]) := by
    show Lies _ _ _ _
    rw [hw0]
    have := Lies.new ((w.alloc (.cells #[Value.slice A a.objs.length c, Value.int .i64 a.cap, Value.int .i64 a.last] 24)).alloc (.cells #[Value.slice B b.objs.length d, Value.int .i64 b.cap, Value.int .i64 b.last] 24)) 57 #[.slice P xs.length p, .slice R ys.length r]
    simpa using this
  have O0 := hid (ha.below HB0.out)
  have Q0 := hid (hb.below HB0.out)
  have I0 := hid (hx.below HB0.out)
  have J0 := hid (hy.below HB0.out)
  have FA := hid fa
  have FB := hid fb
  have WA := hid wa
  have WB := hid wb
  clear ha hb hx hy fa fb wa wb
  go_enter Try.func13, Try.ntmps13
  go_upto_region 1 with fail
  rw [← hw0]
  clear hw0
  have x0 := X0.out.cell 0
  have x1 := X0.out.cell 1
  have x2 := X0.out.cell 2
  have y0 := Y0.out.cell 0
  have y1 := Y0.out.cell 1
  have y2 := Y0.out.cell 2
  have v0 := V0.out.cell 0
  have v1 := V0.out.cell 1
  simp only [List.getElem?_toArray, List.getElem?_cons_zero, List.getElem?_cons_succ] at x0 x1 x2 y0 y1 y2 v0 v1
  go_wp2_with fail
  refine (fixed8_any _).mono ?_
  rintro e w1 ⟨rfl, hb⟩
  have HB1 := hid (HB0.out.trans (hb.mono HB0.out.size))
  have X1 := hid (X0.out.later hb)
  have Y1 := hid (Y0.out.later hb)
  have V1 := hid (V0.out.later hb)
  have O1 := hid (O0.out.below hb)
  have Q1 := hid (Q0.out.below hb)
  have I1 := hid (I0.out.below hb)
  have J1 := hid (J0.out.below hb)
  clear x0 x1 x2 y0 y1 y2 v0 v1
  clear hb
  have x0 := X1.out.cell 0
  have x1 := X1.out.cell 1
  have x2 := X1.out.cell 2
  have y0 := Y1.out.cell 0
  have y1 := Y1.out.cell 1
  have y2 := Y1.out.cell 2
  have v0 := V1.out.cell 0
  have v1 := V1.out.cell 1
  simp only [List.getElem?_toArray, List.getElem?_cons_zero, List.getElem?_cons_succ] at x0 x1 x2 y0 y1 y2 v0 v1
  go_wp2_with fail
  refine (small_ok a A c _ O1.out FA.out).mono ?_
  rintro e w2 ⟨sm, rfl, hb⟩
  have HB2 := hid (HB1.out.trans (hb.mono HB1.out.size))
  have X2 := hid (X1.out.later hb)
  have Y2 := hid (Y1.out.later hb)
  have V2 := hid (V1.out.later hb)
  have O2 := hid (O1.out.below hb)
  have Q2 := hid (Q1.out.below hb)
  have I2 := hid (I1.out.below hb)
  have J2 := hid (J1.out.below hb)
  clear x0 x1 x2 y0 y1 y2 v0 v1
  clear hb
  have x0 := X2.out.cell 0
  have x1 := X2.out.cell 1
  have x2 := X2.out.cell 2
  have y0 := Y2.out.cell 0
  have y1 := Y2.out.cell 1
  have y2 := Y2.out.cell 2
  have v0 := V2.out.cell 0
  have v1 := V2.out.cell 1
  simp only [List.getElem?_toArray, List.getElem?_cons_zero, List.getElem?_cons_succ] at x0 x1 x2 y0 y1 y2 v0 v1
  cases sm
  · go_wp2_with fail
    refine (fixed8_any _).mono ?_
    rintro e w3 ⟨rfl, hb⟩
    have HB3 := hid (HB2.out.trans (hb.mono HB2.out.size))
    have X3 := hid (X2.out.later hb)
    have Y3 := hid (Y2.out.later hb)
    have V3 := hid (V2.out.later hb)
    have O3 := hid (O2.out.below hb)
    have Q3 := hid (Q2.out.below hb)
    have I3 := hid (I2.out.below hb)
    have J3 := hid (J2.out.below hb)
    clear x0 x1 x2 y0 y1 y2 v0 v1
    clear hb
    have x0 := X3.out.cell 0
    have x1 := X3.out.cell 1
    have x2 := X3.out.cell 2
    have y0 := Y3.out.cell 0
    have y1 := Y3.out.cell 1
    have y2 := Y3.out.cell 2
    have v0 := V3.out.cell 0
    have v1 := V3.out.cell 1
    simp only [List.getElem?_toArray, List.getElem?_cons_zero, List.getElem?_cons_succ] at x0 x1 x2 y0 y1 y2 v0 v1
    go_wp2_with fail
    go_ret
    exact ⟨rfl, HB3.out⟩
  · go_wp2_with fail
    refine (small_ok b B d _ Q2.out FB.out).mono ?_
    rintro e w3 ⟨sm, rfl, hb⟩
    have HB3 := hid (HB2.out.trans (hb.mono HB2.out.size))
    have X3 := hid (X2.out.later hb)
    have Y3 := hid (Y2.out.later hb)
    have V3 := hid (V2.out.later hb)
    have O3 := hid (O2.out.below hb)
    have Q3 := hid (Q2.out.below hb)
    have I3 := hid (I2.out.below hb)
    have J3 := hid (J2.out.below hb)
    clear x0 x1 x2 y0 y1 y2 v0 v1
    clear hb
    have x0 := X3.out.cell 0
    have x1 := X3.out.cell 1
    have x2 := X3.out.cell 2
    have y0 := Y3.out.cell 0
    have y1 := Y3.out.cell 1
    have y2 := Y3.out.cell 2
    have v0 := V3.out.cell 0
    have v1 := V3.out.cell 1
    simp only [List.getElem?_toArray, List.getElem?_cons_zero, List.getElem?_cons_succ] at x0 x1 x2 y0 y1 y2 v0 v1
    cases sm
    · go_wp2_with fail
      refine (fixed8_any _).mono ?_
      rintro e w4 ⟨rfl, hb⟩
      have HB4 := hid (HB3.out.trans (hb.mono HB3.out.size))
      have X4 := hid (X3.out.later hb)
      have Y4 := hid (Y3.out.later hb)
      have V4 := hid (V3.out.later hb)
      have O4 := hid (O3.out.below hb)
      have Q4 := hid (Q3.out.below hb)
      have I4 := hid (I3.out.below hb)
      have J4 := hid (J3.out.below hb)
      clear x0 x1 x2 y0 y1 y2 v0 v1
      clear hb
      have x0 := X4.out.cell 0
      have x1 := X4.out.cell 1
      have x2 := X4.out.cell 2
      have y0 := Y4.out.cell 0
      have y1 := Y4.out.cell 1
      have y2 := Y4.out.cell 2
      have v0 := V4.out.cell 0
      have v1 := V4.out.cell 1
      simp only [List.getElem?_toArray, List.getElem?_cons_zero, List.getElem?_cons_succ] at x0 x1 x2 y0 y1 y2 v0 v1
      go_wp2_with fail
      go_ret
      exact ⟨rfl, HB4.out⟩
    · by_cases q1 : 64 < xs.length
      · go_wp2_with fail
        refine (fixed8_any _).mono ?_
        rintro e w4 ⟨rfl, hb⟩
        have HB4 := hid (HB3.out.trans (hb.mono HB3.out.size))
        have X4 := hid (X3.out.later hb)
        have Y4 := hid (Y3.out.later hb)
        have V4 := hid (V3.out.later hb)
        have O4 := hid (O3.out.below hb)
        have Q4 := hid (Q3.out.below hb)
        have I4 := hid (I3.out.below hb)
        have J4 := hid (J3.out.below hb)
        clear x0 x1 x2 y0 y1 y2 v0 v1
        clear hb
        have x0 := X4.out.cell 0
        have x1 := X4.out.cell 1
        have x2 := X4.out.cell 2
        have y0 := Y4.out.cell 0
        have y1 := Y4.out.cell 1
        have y2 := Y4.out.cell 2
        have v0 := V4.out.cell 0
        have v1 := V4.out.cell 1
        simp only [List.getElem?_toArray, List.getElem?_cons_zero, List.getElem?_cons_succ] at x0 x1 x2 y0 y1 y2 v0 v1
        go_wp2_with fail
        go_ret
        exact ⟨rfl, HB4.out⟩
      · by_cases q2 : 64 < ys.length
        · go_wp2_with fail
          refine (fixed8_any _).mono ?_
          rintro e w4 ⟨rfl, hb⟩
          have HB4 := hid (HB3.out.trans (hb.mono HB3.out.size))
          have X4 := hid (X3.out.later hb)
          have Y4 := hid (Y3.out.later hb)
          have V4 := hid (V3.out.later hb)
          have O4 := hid (O3.out.below hb)
          have Q4 := hid (Q3.out.below hb)
          have I4 := hid (I3.out.below hb)
          have J4 := hid (J3.out.below hb)
          clear x0 x1 x2 y0 y1 y2 v0 v1
          clear hb
          have x0 := X4.out.cell 0
          have x1 := X4.out.cell 1
          have x2 := X4.out.cell 2
          have y0 := Y4.out.cell 0
          have y1 := Y4.out.cell 1
          have y2 := Y4.out.cell 2
          have v0 := V4.out.cell 0
          have v1 := V4.out.cell 1
          simp only [List.getElem?_toArray, List.getElem?_cons_zero, List.getElem?_cons_succ] at x0 x1 x2 y0 y1 y2 v0 v1
          go_wp2_with fail
          go_ret
          exact ⟨rfl, HB4.out⟩
        · go_wp2_with fail
          refine (rmay_any8 a xs A P c p _ O3.out FA.out I3.out lx).mono ?_
          rintro e w4 ⟨rfl, hb⟩
          have HB4 := hid (HB3.out.trans (hb.mono HB3.out.size))
          have X4 := hid (X3.out.later hb)
          have Y4 := hid (Y3.out.later hb)
          have V4 := hid (V3.out.later hb)
          have O4 := hid (O3.out.below hb)
          have Q4 := hid (Q3.out.below hb)
          have I4 := hid (I3.out.below hb)
          have J4 := hid (J3.out.below hb)
          clear x0 x1 x2 y0 y1 y2 v0 v1
          clear hb
          have x0 := X4.out.cell 0
          have x1 := X4.out.cell 1
          have x2 := X4.out.cell 2
          have y0 := Y4.out.cell 0
          have y1 := Y4.out.cell 1
          have y2 := Y4.out.cell 2
          have v0 := V4.out.cell 0
          have v1 := V4.out.cell 1
          simp only [List.getElem?_toArray, List.getElem?_cons_zero, List.getElem?_cons_succ] at x0 x1 x2 y0 y1 y2 v0 v1
          cases hm : mayR a xs
          · go_wp2_with fail
            refine (fixed8_any _).mono ?_
            rintro e w5 ⟨rfl, hb⟩
            have HB5 := hid (HB4.out.trans (hb.mono HB4.out.size))
            have X5 := hid (X4.out.later hb)
            have Y5 := hid (Y4.out.later hb)
            have V5 := hid (V4.out.later hb)
            have O5 := hid (O4.out.below hb)
            have Q5 := hid (Q4.out.below hb)
            have I5 := hid (I4.out.below hb)
            have J5 := hid (J4.out.below hb)
            clear x0 x1 x2 y0 y1 y2 v0 v1
            clear hb
            have x0 := X5.out.cell 0
            have x1 := X5.out.cell 1
            have x2 := X5.out.cell 2
            have y0 := Y5.out.cell 0
            have y1 := Y5.out.cell 1
            have y2 := Y5.out.cell 2
            have v0 := V5.out.cell 0
            have v1 := V5.out.cell 1
            simp only [List.getElem?_toArray, List.getElem?_cons_zero, List.getElem?_cons_succ] at x0 x1 x2 y0 y1 y2 v0 v1
            go_wp2_with fail
            go_ret
            exact ⟨rfl, HB5.out⟩
          · have HMA := hid hm
            clear hm
            go_wp2_with fail
            refine (rmay_any8 b ys B R d r _ Q4.out FB.out J4.out ly).mono ?_
            rintro e w5 ⟨rfl, hb⟩
            have HB5 := hid (HB4.out.trans (hb.mono HB4.out.size))
            have X5 := hid (X4.out.later hb)
            have Y5 := hid (Y4.out.later hb)
            have V5 := hid (V4.out.later hb)
            have O5 := hid (O4.out.below hb)
            have Q5 := hid (Q4.out.below hb)
            have I5 := hid (I4.out.below hb)
            have J5 := hid (J4.out.below hb)
            clear x0 x1 x2 y0 y1 y2 v0 v1
            clear hb
            have x0 := X5.out.cell 0
            have x1 := X5.out.cell 1
            have x2 := X5.out.cell 2
            have y0 := Y5.out.cell 0
            have y1 := Y5.out.cell 1
            have y2 := Y5.out.cell 2
            have v0 := V5.out.cell 0
            have v1 := V5.out.cell 1
            simp only [List.getElem?_toArray, List.getElem?_cons_zero, List.getElem?_cons_succ] at x0 x1 x2 y0 y1 y2 v0 v1
            cases hm : mayR b ys
            · go_wp2_with fail
              refine (fixed8_any _).mono ?_
              rintro e w6 ⟨rfl, hb⟩
              have HB6 := hid (HB5.out.trans (hb.mono HB5.out.size))
              have X6 := hid (X5.out.later hb)
              have Y6 := hid (Y5.out.later hb)
              have V6 := hid (V5.out.later hb)
              have O6 := hid (O5.out.below hb)
              have Q6 := hid (Q5.out.below hb)
              have I6 := hid (I5.out.below hb)
              have J6 := hid (J5.out.below hb)
              clear x0 x1 x2 y0 y1 y2 v0 v1
              clear hb
              have x0 := X6.out.cell 0
              have x1 := X6.out.cell 1
              have x2 := X6.out.cell 2
              have y0 := Y6.out.cell 0
              have y1 := Y6.out.cell 1
              have y2 := Y6.out.cell 2
              have v0 := V6.out.cell 0
              have v1 := V6.out.cell 1
              simp only [List.getElem?_toArray, List.getElem?_cons_zero, List.getElem?_cons_succ] at x0 x1 x2 y0 y1 y2 v0 v1
              go_wp2_with fail
              go_ret
              exact ⟨rfl, HB6.out⟩
            · have HMB := hid hm
              clear hm
              obtain ⟨E, hE⟩ : ∃ E, E = encE a xs := ⟨_, rfl⟩
              obtain ⟨F, hF⟩ : ∃ F, F = encE b ys := ⟨_, rfl⟩
              have HE := hid hE
              have HF := hid hF
              have g1 : (str E).toList.isEmpty = false := str_full8 (by rw [hE]; exact enc_ne HMA.out)
              clear hE hF
              go_upto_region 3 with fail
              refine wp_region_held_drew (S := (fun w' => w'.cell? ⟨w.heap.size, 0, none⟩ = some (.slice A a.objs.length c) ∧ w'.cell? ⟨w.heap.size, 1, none⟩ = some (.int .i64 a.cap) ∧ w'.cell? ⟨w.heap.size, 2, none⟩ = some (.int .i64 a.last) ∧ w'.cell? ⟨w.heap.size + 1, 0, none⟩ = some (.slice B b.objs.length d) ∧ w'.cell? ⟨w.heap.size + 1, 1, none⟩ = some (.int .i64 b.cap) ∧ w'.cell? ⟨w.heap.size + 1, 2, none⟩ = some (.int .i64 b.last) ∧ w'.cell? ⟨w.heap.size + 1 + 1, 0, none⟩ = some (.slice P xs.length p) ∧ w'.cell? ⟨w.heap.size + 1 + 1, 1, none⟩ = some (.slice R ys.length r))) (by kernel_rfl) ?_ (fun hH0 => ?_)
              · exact ⟨x0, x1, x2, y0, y1, y2, v0, v1⟩
              refine wpAnyH_take (i := 0) (oi := { dst := some 48, op := Go.Op.load 24 (Go.Operand.tmp 3), type := 24, pos := "law.go:94", after := #[], guard := none }) (v := ?vv1) rfl (by kernel_rfl) (by kernel_rfl) (by kernel_rfl) (fun _ _ _ h => h) (Or.inl ⟨by rfl, ?hy1⟩) (by assumption) ?rr1
              case hy1 => intro w hSw; (try dsimp only at hSw); go_simp; all_goals with_reducible rfl
              try simp only [Act.put, List.setIfInBounds_toArray, List.set_cons_zero, List.set_cons_succ]
              refine wpAnyH_take (i := 1) (oi := { dst := some 49, op := Go.Op.indexAddr 57 (Go.Operand.tmp 5) (Go.Operand.const (Go.Value.int Go.IntKind.i64 0)), type := 0, pos := "law.go:94", after := #[], guard := none }) (v := ?vv2) rfl (by kernel_rfl) (by kernel_rfl) (by kernel_rfl) (fun _ _ _ h => h) (Or.inl ⟨by rfl, ?hy2⟩) (by assumption) ?rr2
              case hy2 => intro w hSw; (try dsimp only at hSw); go_simp; all_goals with_reducible rfl
              try simp only [Act.put, List.setIfInBounds_toArray, List.set_cons_zero, List.set_cons_succ]
              refine wpAnyH_take (i := 2) (oi := { dst := some 50, op := Go.Op.load 44 (Go.Operand.tmp 49), type := 44, pos := "law.go:94", after := #[{ on := 1, ground := Go.Ground.data }], guard := none }) (v := ?vv3) rfl (by kernel_rfl) (by kernel_rfl) (by kernel_rfl) (fun _ _ _ h => h) (Or.inl ⟨by rfl, ?hy3⟩) (by assumption) ?rr3
              case hy3 => intro w hSw; (try dsimp only at hSw); go_simp; all_goals with_reducible rfl
              try simp only [Act.put, List.setIfInBounds_toArray, List.set_cons_zero, List.set_cons_succ]
              refine wpAnyH_take (i := 4) (oi := { dst := some 52, op := Go.Op.load 24 (Go.Operand.tmp 4), type := 24, pos := "law.go:94", after := #[], guard := none }) (v := ?vv4) rfl (by kernel_rfl) (by kernel_rfl) (by kernel_rfl) (fun _ _ _ h => h) (Or.inl ⟨by rfl, ?hy4⟩) (by assumption) ?rr4
              case hy4 => intro w hSw; (try dsimp only at hSw); go_simp; all_goals with_reducible rfl
              try simp only [Act.put, List.setIfInBounds_toArray, List.set_cons_zero, List.set_cons_succ]
              refine wpAnyH_take (i := 5) (oi := { dst := some 53, op := Go.Op.indexAddr 57 (Go.Operand.tmp 5) (Go.Operand.const (Go.Value.int Go.IntKind.i64 1)), type := 0, pos := "law.go:94", after := #[], guard := none }) (v := ?vv5) rfl (by kernel_rfl) (by kernel_rfl) (by kernel_rfl) (fun _ _ _ h => h) (Or.inl ⟨by rfl, ?hy5⟩) (by assumption) ?rr5
              case hy5 => intro w hSw; (try dsimp only at hSw); go_simp; all_goals with_reducible rfl
              try simp only [Act.put, List.setIfInBounds_toArray, List.set_cons_zero, List.set_cons_succ]
              refine wpAnyH_take (i := 6) (oi := { dst := some 54, op := Go.Op.load 44 (Go.Operand.tmp 53), type := 44, pos := "law.go:94", after := #[{ on := 5, ground := Go.Ground.data }], guard := none }) (v := ?vv6) rfl (by kernel_rfl) (by kernel_rfl) (by kernel_rfl) (fun _ _ _ h => h) (Or.inl ⟨by rfl, ?hy6⟩) (by assumption) ?rr6
              case hy6 => intro w hSw; (try dsimp only at hSw); go_simp; all_goals with_reducible rfl
              try simp only [Act.put, List.setIfInBounds_toArray, List.set_cons_zero, List.set_cons_succ]
              refine wpAnyH_ready (rs := [3]) (by kernel_rfl) (by simp) ?_
              refine AllReadyH.cons (i := 3) (o := { dst := some 51, op := Go.Op.call { callee := Go.Callee.value (Go.Operand.func 39), args := #[Go.Operand.tmp 48, Go.Operand.tmp 50], argTypes := #[24, 44] }, type := 9, pos := "law.go:94", after := #[{ on := 0, ground := Go.Ground.data }, { on := 2, ground := Go.Ground.data }], guard := none }) rfl (fun K hK => ?_) AllReadyH.nil
              go_simp
              go_at_call 39
              refine (enc_any8 a xs A P c p _ (O5.out.below (Below.refl w5.heap.size w5).drew) FA.out (I5.out.below (Below.refl w5.heap.size w5).drew) lx).mono ?_
              rintro e u1 ⟨rfl, hb⟩
              rw [← HE.out]
              have HV1 := hid (then_w (Below.refl w5.heap.size w5).drew hb)
              refine hK.out _ _ ?_ (fun hH1 => ?_)
              · exact ⟨cell_later hb hH0.1, cell_later hb hH0.2.1, cell_later hb hH0.2.2.1, cell_later hb hH0.2.2.2.1, cell_later hb hH0.2.2.2.2.1, cell_later hb hH0.2.2.2.2.2.1, cell_later hb hH0.2.2.2.2.2.2.1, cell_later hb hH0.2.2.2.2.2.2.2⟩
              clear hK K
              try simp only [Act.put, List.setIfInBounds_toArray, List.set_cons_zero, List.set_cons_succ]
              clear hb
              refine wpAnyH_ready (rs := [7]) (by kernel_rfl) (by simp) ?_
              refine AllReadyH.cons (i := 7) (o := { dst := some 55, op := Go.Op.call { callee := Go.Callee.value (Go.Operand.func 39), args := #[Go.Operand.tmp 52, Go.Operand.tmp 54], argTypes := #[24, 44] }, type := 9, pos := "law.go:94", after := #[{ on := 4, ground := Go.Ground.data }, { on := 6, ground := Go.Ground.data }, { on := 3, ground := Go.Ground.chain }], guard := none }) rfl (fun K hK => ?_) AllReadyH.nil
              go_simp
              go_at_call 39
              refine (enc_any8 b ys B R d r _ (Q5.out.below HV1.out) FB.out (J5.out.below HV1.out) ly).mono ?_
              rintro e u2 ⟨rfl, hb⟩
              rw [← HF.out]
              have HV2 := hid (then_w HV1.out hb)
              refine hK.out _ _ ?_ (fun hH2 => ?_)
              · exact ⟨cell_later hb hH1.1, cell_later hb hH1.2.1, cell_later hb hH1.2.2.1, cell_later hb hH1.2.2.2.1, cell_later hb hH1.2.2.2.2.1, cell_later hb hH1.2.2.2.2.2.1, cell_later hb hH1.2.2.2.2.2.2.1, cell_later hb hH1.2.2.2.2.2.2.2⟩
              clear hK K
              try simp only [Act.put, List.setIfInBounds_toArray, List.set_cons_zero, List.set_cons_succ]
              clear hb
              refine wpAnyH_take (i := 8) (oi := { dst := some 7, op := Go.Op.assign (Go.Operand.tmp 51), type := 9, pos := "law.go:94", after := #[{ on := 3, ground := Go.Ground.data }, { on := 7, ground := Go.Ground.chain }, { on := 0, ground := Go.Ground.phase }, { on := 1, ground := Go.Ground.phase }, { on := 2, ground := Go.Ground.phase }, { on := 3, ground := Go.Ground.phase }, { on := 4, ground := Go.Ground.textOnly Go.Departure.lateStores }, { on := 5, ground := Go.Ground.textOnly Go.Departure.lateStores }, { on := 6, ground := Go.Ground.textOnly Go.Departure.lateStores }, { on := 7, ground := Go.Ground.textOnly Go.Departure.lateStoresUnsure }], guard := none }) (v := ?vv7) rfl (by kernel_rfl) (by kernel_rfl) (by kernel_rfl) (fun _ _ _ h => h) (Or.inl ⟨by rfl, ?hy7⟩) (by assumption) ?rr7
              case hy7 => intro w hSw; (try dsimp only at hSw); go_simp; all_goals with_reducible rfl
              try simp only [Act.put, List.setIfInBounds_toArray, List.set_cons_zero, List.set_cons_succ]
              refine wpAnyH_take (i := 9) (oi := { dst := some 8, op := Go.Op.assign (Go.Operand.tmp 55), type := 9, pos := "law.go:94", after := #[{ on := 7, ground := Go.Ground.data }, { on := 8, ground := Go.Ground.chain }, { on := 0, ground := Go.Ground.phase }, { on := 1, ground := Go.Ground.phase }, { on := 2, ground := Go.Ground.phase }, { on := 3, ground := Go.Ground.phase }, { on := 4, ground := Go.Ground.phase }, { on := 5, ground := Go.Ground.phase }, { on := 6, ground := Go.Ground.phase }, { on := 7, ground := Go.Ground.phase }, { on := 8, ground := Go.Ground.phase }], guard := none }) (v := ?vv8) rfl (by kernel_rfl) (by kernel_rfl) (by kernel_rfl) (fun _ _ _ h => h) (Or.inl ⟨by rfl, ?hy8⟩) (by assumption) ?rr8
              case hy8 => intro w hSw; (try dsimp only at hSw); go_simp; all_goals with_reducible rfl
              try simp only [Act.put, List.setIfInBounds_toArray, List.set_cons_zero, List.set_cons_succ]
              refine wpAnyH_done (by kernel_rfl) ?_ _
              obtain ⟨w6, hw⟩ : ∃ u, u = u2 := ⟨_, rfl⟩
              have hb := HV2.out
              rw [← hw] at hb ⊢
              have HB6 := hid (HB5.out.trans (hb.mono HB5.out.size))
              have X6 := hid (X5.out.later hb)
              have Y6 := hid (Y5.out.later hb)
              have V6 := hid (V5.out.later hb)
              have O6 := hid (O5.out.below hb)
              have Q6 := hid (Q5.out.below hb)
              have I6 := hid (I5.out.below hb)
              have J6 := hid (J5.out.below hb)
              clear hb hw HV1 HV2 hH0 hH1 hH2 x0 x1 x2 y0 y1 y2 v0 v1
              have x0 := X6.out.cell 0
              have x1 := X6.out.cell 1
              have x2 := X6.out.cell 2
              have y0 := Y6.out.cell 0
              have y1 := Y6.out.cell 1
              have y2 := Y6.out.cell 2
              have v0 := V6.out.cell 0
              have v1 := V6.out.cell 1
              simp only [List.getElem?_toArray, List.getElem?_cons_zero, List.getElem?_cons_succ] at x0 x1 x2 y0 y1 y2 v0 v1
              by_cases he : E = F
              · obtain ⟨h1, h2⟩ := enc_inj HMA.out WA.out WB.out (HE.out.symm.trans (he.trans HF.out))
                have HAB := hid h1
                have HXY := hid h2
                clear h1 h2
                subst he
                go_wp2_with fail
                refine (same_all a b A B c d _ O6.out Q6.out FA.out FB.out).mono ?_
                rintro e w7 ⟨⟨xx, rfl, hx⟩, hb⟩
                obtain rfl : xx = true := hx.2 HAB.out
                clear hx
                have HB7 := hid (HB6.out.trans (hb.mono HB6.out.size))
                have X7 := hid (X6.out.later hb)
                have Y7 := hid (Y6.out.later hb)
                have V7 := hid (V6.out.later hb)
                have O7 := hid (O6.out.below hb)
                have Q7 := hid (Q6.out.below hb)
                have I7 := hid (I6.out.below hb)
                have J7 := hid (J6.out.below hb)
                clear x0 x1 x2 y0 y1 y2 v0 v1
                clear hb
                have x0 := X7.out.cell 0
                have x1 := X7.out.cell 1
                have x2 := X7.out.cell 2
                have y0 := Y7.out.cell 0
                have y1 := Y7.out.cell 1
                have y2 := Y7.out.cell 2
                have v0 := V7.out.cell 0
                have v1 := V7.out.cell 1
                simp only [List.getElem?_toArray, List.getElem?_cons_zero, List.getElem?_cons_succ] at x0 x1 x2 y0 y1 y2 v0 v1
                go_wp2_with fail
                refine (rints_any xs ys P R p r _ I7.out J7.out lx).mono ?_
                rintro e w8 ⟨rfl, hb⟩
                rw [decide_eq_true HXY.out]
                have HB8 := hid (HB7.out.trans (hb.mono HB7.out.size))
                have X8 := hid (X7.out.later hb)
                have Y8 := hid (Y7.out.later hb)
                have V8 := hid (V7.out.later hb)
                have O8 := hid (O7.out.below hb)
                have Q8 := hid (Q7.out.below hb)
                have I8 := hid (I7.out.below hb)
                have J8 := hid (J7.out.below hb)
                clear x0 x1 x2 y0 y1 y2 v0 v1
                clear hb
                have x0 := X8.out.cell 0
                have x1 := X8.out.cell 1
                have x2 := X8.out.cell 2
                have y0 := Y8.out.cell 0
                have y1 := Y8.out.cell 1
                have y2 := Y8.out.cell 2
                have v0 := V8.out.cell 0
                have v1 := V8.out.cell 1
                simp only [List.getElem?_toArray, List.getElem?_cons_zero, List.getElem?_cons_succ] at x0 x1 x2 y0 y1 y2 v0 v1
                go_wp2_with fail
                go_ret
                exact ⟨rfl, HB8.out⟩
              · have g2 : ¬ (str E).toList = (str F).toList := fun e => he (str_inj e)
                have g3 : ((str E).toList == (str F).toList) = false := beq_eq_false_iff_ne.2 g2
                have HNE : Hid (a = b → ¬ xs = ys) := fun h1 h2 => he (by rw [HE.out, HF.out, h1, h2])
                clear he
                go_wp2_with fail
                refine (same_all a b A B c d _ O6.out Q6.out FA.out FB.out).mono ?_
                rintro e w7 ⟨⟨xx, rfl, hx⟩, hb⟩
                have HB7 := hid (HB6.out.trans (hb.mono HB6.out.size))
                have X7 := hid (X6.out.later hb)
                have Y7 := hid (Y6.out.later hb)
                have V7 := hid (V6.out.later hb)
                have O7 := hid (O6.out.below hb)
                have Q7 := hid (Q6.out.below hb)
                have I7 := hid (I6.out.below hb)
                have J7 := hid (J6.out.below hb)
                clear x0 x1 x2 y0 y1 y2 v0 v1
                clear hb
                have x0 := X7.out.cell 0
                have x1 := X7.out.cell 1
                have x2 := X7.out.cell 2
                have y0 := Y7.out.cell 0
                have y1 := Y7.out.cell 1
                have y2 := Y7.out.cell 2
                have v0 := V7.out.cell 0
                have v1 := V7.out.cell 1
                simp only [List.getElem?_toArray, List.getElem?_cons_zero, List.getElem?_cons_succ] at x0 x1 x2 y0 y1 y2 v0 v1
                cases xx
                · clear hx
                  go_wp2_with fail
                  go_ret
                  exact ⟨rfl, HB7.out⟩
                · have HN2 := hid (HNE.out (hx.1 rfl))
                  clear hx
                  go_wp2_with fail
                  refine (rints_any xs ys P R p r _ I7.out J7.out lx).mono ?_
                  rintro e w8 ⟨rfl, hb⟩
                  rw [decide_eq_false HN2.out]
                  have HB8 := hid (HB7.out.trans (hb.mono HB7.out.size))
                  have X8 := hid (X7.out.later hb)
                  have Y8 := hid (Y7.out.later hb)
                  have V8 := hid (V7.out.later hb)
                  have O8 := hid (O7.out.below hb)
                  have Q8 := hid (Q7.out.below hb)
                  have I8 := hid (I7.out.below hb)
                  have J8 := hid (J7.out.below hb)
                  clear x0 x1 x2 y0 y1 y2 v0 v1
                  clear hb
                  have x0 := X8.out.cell 0
                  have x1 := X8.out.cell 1
                  have x2 := X8.out.cell 2
                  have y0 := Y8.out.cell 0
                  have y1 := Y8.out.cell 1
                  have y2 := Y8.out.cell 2
                  have v0 := V8.out.cell 0
                  have v1 := V8.out.cell 1
                  simp only [List.getElem?_toArray, List.getElem?_cons_zero, List.getElem?_cons_succ] at x0 x1 x2 y0 y1 y2 v0 v1
                  go_wp2_with fail
                  go_ret
                  exact ⟨rfl, HB8.out⟩
end Go.Proofs.Ythggafdfglojaaa
