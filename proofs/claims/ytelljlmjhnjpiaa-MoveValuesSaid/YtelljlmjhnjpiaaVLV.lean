/- MoveValues walked: whatever heap, roots and two values, it answers true. -/
import Derived.Test.YtelljlmjhnjpiaaVG
import Derived.Test.YtelljlmjhnjpiaaNL
import Derived.Test.YtelljlmjhnjpiaaR
import Derived.Test.YtelljlmjhnjpiaaN
import Derived.Test.YtelljlmjhnjpiaaMB
import Derived.Test.YtelljlmjhnjpiaaVLM
namespace Go.Proofs.Ytelljlmjhnjpiaa
open Go.RowKit
set_option maxRecDepth 100000
set_option maxHeartbeats 1500000 in
theorem values5_any (h : Hp) (rs : List Int) (a b : Int) (A : Option Addr) (c : Nat) (R : Option Addr) (d : Nat) (w : World) (hs : ObsR w A h.objs) (fit : h.Fit) (hr : IntsR w R rs) (hl : rs.length ≤ 9223372036854775807) :
    Calls Try.prog 13 #[.agg #[.slice A h.objs.length c, .int .i64 h.cap, .int .i64 h.last], .slice R rs.length d, .agg #[Value.int .i64 a, Value.int .i64 b]] w fun e w' => e = .returned (.bool true) ∧ Below w.heap.size w w' := by
  have HB0 := hid (below_alloc2 w (.cells #[Value.slice A h.objs.length c, Value.int .i64 h.cap, Value.int .i64 h.last] 24) (.cells #[Value.int .i64 a, Value.int .i64 b] 62))
  have X0 := hid ((Lies.new w 24 #[Value.slice A h.objs.length c, Value.int .i64 h.cap, Value.int .i64 h.last]).alloc (.cells #[Value.int .i64 a, Value.int .i64 b] 62))
  have Y0 : Hid (Lies ((w.alloc (.cells #[Value.slice A h.objs.length c, Value.int .i64 h.cap, Value.int .i64 h.last] 24)).alloc (.cells #[Value.int .i64 a, Value.int .i64 b] 62)) (w.heap.size + 1) 62 #[Value.int .i64 a, Value.int .i64 b]) := by
    have := Lies.new (w.alloc (.cells #[Value.slice A h.objs.length c, Value.int .i64 h.cap, Value.int .i64 h.last] 24)) 62 #[Value.int .i64 a, Value.int .i64 b]
    simpa [Hid] using this
  have O0 := hid (hs.below HB0.out)
  have R0 := hid (hr.below HB0.out)
  have HF := hid fit
  have hfl := fit.1
  clear hs fit hr
  go_enter Try.func13, Try.ntmps13
  go_wp2_with fail
  refine (fixed5_any _).mono ?_
  rintro e w1 ⟨rfl, hb⟩
  have HB1 := hid (HB0.out.trans (hb.mono HB0.out.size))
  have X1 := hid (X0.out.later hb)
  have Y1 := hid (Y0.out.later hb)
  have O1 := hid (O0.out.below hb)
  have R1 := hid (R0.out.below hb)
  clear hb
  have x0 := X1.out.cell 0
  have x1 := X1.out.cell 1
  have x2 := X1.out.cell 2
  have y0 := Y1.out.cell 0
  have y1 := Y1.out.cell 1
  simp only [List.getElem?_toArray, List.getElem?_cons_zero, List.getElem?_cons_succ] at x0 x1 x2 y0 y1
  go_wp2_with fail
  refine (small_ok h A c _ O1.out HF.out).mono ?_
  rintro e w2 ⟨sm, rfl, hb⟩
  have HB2 := hid (HB1.out.trans (hb.mono HB1.out.size))
  have X2 := hid (X1.out.later hb)
  have Y2 := hid (Y1.out.later hb)
  have O2 := hid (O1.out.below hb)
  have R2 := hid (R1.out.below hb)
  clear x0 x1 x2 y0 y1
  clear hb
  have x0 := X2.out.cell 0
  have x1 := X2.out.cell 1
  have x2 := X2.out.cell 2
  have y0 := Y2.out.cell 0
  have y1 := Y2.out.cell 1
  simp only [List.getElem?_toArray, List.getElem?_cons_zero, List.getElem?_cons_succ] at x0 x1 x2 y0 y1
  cases sm
  · go_wp2_with fail
    refine (fixed5_any _).mono ?_
    rintro e w3 ⟨rfl, hb⟩
    have HB3 := hid (HB2.out.trans (hb.mono HB2.out.size))
    have X3 := hid (X2.out.later hb)
    have Y3 := hid (Y2.out.later hb)
    have O3 := hid (O2.out.below hb)
    have R3 := hid (R2.out.below hb)
    clear x0 x1 x2 y0 y1
    clear hb
    have x0 := X3.out.cell 0
    have x1 := X3.out.cell 1
    have x2 := X3.out.cell 2
    have y0 := Y3.out.cell 0
    have y1 := Y3.out.cell 1
    simp only [List.getElem?_toArray, List.getElem?_cons_zero, List.getElem?_cons_succ] at x0 x1 x2 y0 y1
    go_wp2_with fail
    go_ret
    exact ⟨rfl, HB3.out⟩
  · go_wp2_with fail
    refine (rmay_any h A c _ O2.out HF.out).mono ?_
    rintro e w3 ⟨rfl, hb⟩
    have HB3 := hid (HB2.out.trans (hb.mono HB2.out.size))
    have X3 := hid (X2.out.later hb)
    have Y3 := hid (Y2.out.later hb)
    have O3 := hid (O2.out.below hb)
    have R3 := hid (R2.out.below hb)
    clear x0 x1 x2 y0 y1
    clear hb
    have x0 := X3.out.cell 0
    have x1 := X3.out.cell 1
    have x2 := X3.out.cell 2
    have y0 := Y3.out.cell 0
    have y1 := Y3.out.cell 1
    simp only [List.getElem?_toArray, List.getElem?_cons_zero, List.getElem?_cons_succ] at x0 x1 x2 y0 y1
    cases hm : mayB h
    · go_wp2_with fail
      refine (fixed5_any _).mono ?_
      rintro e w4 ⟨rfl, hb⟩
      have HB4 := hid (HB3.out.trans (hb.mono HB3.out.size))
      have X4 := hid (X3.out.later hb)
      have Y4 := hid (Y3.out.later hb)
      have O4 := hid (O3.out.below hb)
      have R4 := hid (R3.out.below hb)
      clear x0 x1 x2 y0 y1
      clear hb
      have x0 := X4.out.cell 0
      have x1 := X4.out.cell 1
      have x2 := X4.out.cell 2
      have y0 := Y4.out.cell 0
      have y1 := Y4.out.cell 1
      simp only [List.getElem?_toArray, List.getElem?_cons_zero, List.getElem?_cons_succ] at x0 x1 x2 y0 y1
      go_wp2_with fail
      go_ret
      exact ⟨rfl, HB4.out⟩
    · have HM := hid hm
      clear hm
      by_cases c1 : 40 < h.objs.length
      · go_wp2_with fail
        refine (fixed5_any _).mono ?_
        rintro e w4 ⟨rfl, hb⟩
        have HB4 := hid (HB3.out.trans (hb.mono HB3.out.size))
        have X4 := hid (X3.out.later hb)
        have Y4 := hid (Y3.out.later hb)
        have O4 := hid (O3.out.below hb)
        have R4 := hid (R3.out.below hb)
        clear x0 x1 x2 y0 y1
        clear hb
        have x0 := X4.out.cell 0
        have x1 := X4.out.cell 1
        have x2 := X4.out.cell 2
        have y0 := Y4.out.cell 0
        have y1 := Y4.out.cell 1
        simp only [List.getElem?_toArray, List.getElem?_cons_zero, List.getElem?_cons_succ] at x0 x1 x2 y0 y1
        go_wp2_with fail
        go_ret
        exact ⟨rfl, HB4.out⟩
      · by_cases c2 : 100 < rs.length
        · go_wp2_with fail
          refine (fixed5_any _).mono ?_
          rintro e w4 ⟨rfl, hb⟩
          have HB4 := hid (HB3.out.trans (hb.mono HB3.out.size))
          have X4 := hid (X3.out.later hb)
          have Y4 := hid (Y3.out.later hb)
          have O4 := hid (O3.out.below hb)
          have R4 := hid (R3.out.below hb)
          clear x0 x1 x2 y0 y1
          clear hb
          have x0 := X4.out.cell 0
          have x1 := X4.out.cell 1
          have x2 := X4.out.cell 2
          have y0 := Y4.out.cell 0
          have y1 := Y4.out.cell 1
          simp only [List.getElem?_toArray, List.getElem?_cons_zero, List.getElem?_cons_succ] at x0 x1 x2 y0 y1
          go_wp2_with fail
          go_ret
          exact ⟨rfl, HB4.out⟩
        · go_wp2_with fail
          refine (rhas_any h a A c _).mono ?_
          rintro e w4 ⟨rfl, hb⟩
          have HB4 := hid (HB3.out.trans (hb.mono HB3.out.size))
          have X4 := hid (X3.out.later hb)
          have Y4 := hid (Y3.out.later hb)
          have O4 := hid (O3.out.below hb)
          have R4 := hid (R3.out.below hb)
          clear x0 x1 x2 y0 y1
          clear hb
          have x0 := X4.out.cell 0
          have x1 := X4.out.cell 1
          have x2 := X4.out.cell 2
          have y0 := Y4.out.cell 0
          have y1 := Y4.out.cell 1
          simp only [List.getElem?_toArray, List.getElem?_cons_zero, List.getElem?_cons_succ] at x0 x1 x2 y0 y1
          cases ha : hasB h.objs.length a
          · go_wp2_with fail
            refine (fixed5_any _).mono ?_
            rintro e w5 ⟨rfl, hb⟩
            have HB5 := hid (HB4.out.trans (hb.mono HB4.out.size))
            have X5 := hid (X4.out.later hb)
            have Y5 := hid (Y4.out.later hb)
            have O5 := hid (O4.out.below hb)
            have R5 := hid (R4.out.below hb)
            clear x0 x1 x2 y0 y1
            clear hb
            have x0 := X5.out.cell 0
            have x1 := X5.out.cell 1
            have x2 := X5.out.cell 2
            have y0 := Y5.out.cell 0
            have y1 := Y5.out.cell 1
            simp only [List.getElem?_toArray, List.getElem?_cons_zero, List.getElem?_cons_succ] at x0 x1 x2 y0 y1
            go_wp2_with fail
            go_ret
            exact ⟨rfl, HB5.out⟩
          · go_wp2_with fail
            refine (rhas_any h b A c _).mono ?_
            rintro e w5 ⟨rfl, hb⟩
            have HB5 := hid (HB4.out.trans (hb.mono HB4.out.size))
            have X5 := hid (X4.out.later hb)
            have Y5 := hid (Y4.out.later hb)
            have O5 := hid (O4.out.below hb)
            have R5 := hid (R4.out.below hb)
            clear x0 x1 x2 y0 y1
            clear hb
            have x0 := X5.out.cell 0
            have x1 := X5.out.cell 1
            have x2 := X5.out.cell 2
            have y0 := Y5.out.cell 0
            have y1 := Y5.out.cell 1
            simp only [List.getElem?_toArray, List.getElem?_cons_zero, List.getElem?_cons_succ] at x0 x1 x2 y0 y1
            cases hb : hasB h.objs.length b
            · go_wp2_with fail
              refine (fixed5_any _).mono ?_
              rintro e w6 ⟨rfl, hb⟩
              have HB6 := hid (HB5.out.trans (hb.mono HB5.out.size))
              have X6 := hid (X5.out.later hb)
              have Y6 := hid (Y5.out.later hb)
              have O6 := hid (O5.out.below hb)
              have R6 := hid (R5.out.below hb)
              clear x0 x1 x2 y0 y1
              clear hb
              have x0 := X6.out.cell 0
              have x1 := X6.out.cell 1
              have x2 := X6.out.cell 2
              have y0 := Y6.out.cell 0
              have y1 := Y6.out.cell 1
              simp only [List.getElem?_toArray, List.getElem?_cons_zero, List.getElem?_cons_succ] at x0 x1 x2 y0 y1
              go_wp2_with fail
              go_ret
              exact ⟨rfl, HB6.out⟩
            · have htl := tabL_le h rs
              have hll := liL_len h rs
              have HA := hid ha
              have HB_ := hid hb
              by_cases he : liE h rs = 0
              · have HVA := hid (val5 he ha)
                have HVB := hid (val5 he hb)
                have HVI := hid (fun pa pb => val5_eq he ha hb pa pb)
                obtain ⟨t, ht⟩ : ∃ t, t = tabL h rs := ⟨_, rfl⟩
                obtain ⟨L, hL⟩ : ∃ L, L = liL h rs := ⟨_, rfl⟩
                rw [← ht] at HVA HVB HVI htl
                rw [← hL] at HVA HVB hll
                have HT := hid ht
                have HL := hid hL
                clear ha hb ht hL
                go_wp2_with fail
                refine (table_any h rs A R c d _ O5.out HF.out R5.out hl).mono ?_
                rintro e w6 ⟨A6, c6, rfl, hi, -, -, hb⟩
                rw [he, ← HT.out]
                rw [← HT.out] at hi
                have HB6 := hid (HB5.out.trans (hb.mono HB5.out.size))
                have X6 := hid (X5.out.later hb)
                have Y6 := hid (Y5.out.later hb)
                have O6 := hid (O5.out.below hb)
                have R6 := hid (R5.out.below hb)
                have LT6 := hid (hi)
                clear x0 x1 x2 y0 y1
                clear hb
                clear hi
                have x0 := X6.out.cell 0
                have x1 := X6.out.cell 1
                have x2 := X6.out.cell 2
                have y0 := Y6.out.cell 0
                have y1 := Y6.out.cell 1
                simp only [List.getElem?_toArray, List.getElem?_cons_zero, List.getElem?_cons_succ] at x0 x1 x2 y0 y1
                go_wp2_with fail
                refine (rlive_any h rs A R c d _ O6.out HF.out R6.out hl).mono ?_
                rintro e w7 ⟨A7, c7, rfl, hi, -, -, hb⟩
                rw [he, ← HL.out]
                rw [← HL.out] at hi
                clear he
                have HB7 := hid (HB6.out.trans (hb.mono HB6.out.size))
                have X7 := hid (X6.out.later hb)
                have Y7 := hid (Y6.out.later hb)
                have O7 := hid (O6.out.below hb)
                have R7 := hid (R6.out.below hb)
                have LT7 := hid (LT6.out.below hb)
                have LL7 := hid (hi)
                clear x0 x1 x2 y0 y1
                clear hb
                clear hi
                have x0 := X7.out.cell 0
                have x1 := X7.out.cell 1
                have x2 := X7.out.cell 2
                have y0 := Y7.out.cell 0
                have y1 := Y7.out.cell 1
                simp only [List.getElem?_toArray, List.getElem?_cons_zero, List.getElem?_cons_succ] at x0 x1 x2 y0 y1
                obtain ⟨va, hva⟩ : ∃ va, va = vaV t a := ⟨_, rfl⟩
                obtain ⟨vb, hvb⟩ : ∃ vb, vb = vaV t b := ⟨_, rfl⟩
                obtain ⟨pa, hpa⟩ : ∃ pa, pa = vaB t a := ⟨_, rfl⟩
                obtain ⟨pb, hpb⟩ : ∃ pb, pb = vaB t b := ⟨_, rfl⟩
                obtain ⟨ra, hra⟩ : ∃ ra, ra = refI h.objs.length a := ⟨_, rfl⟩
                obtain ⟨rb, hrb⟩ : ∃ rb, rb = refI h.objs.length b := ⟨_, rfl⟩
                rw [← hva, ← hvb, ← hpa, ← hpb] at HVI
                rw [← hpa, ← hra] at HVA
                rw [← hpb, ← hrb] at HVB
                have Hva := hid hva
                have Hvb := hid hvb
                have Hpa := hid hpa
                have Hpb := hid hpb
                have Hra := hid hra
                have Hrb := hid hrb
                clear hva hvb hpa hpb hra hrb
                go_wp2_with fail
                refine (value_any t a A6 c6 _ LT7.out (by omega)).mono ?_
                rintro e w99 ⟨rfl, hw⟩
                rw [hw, ← Hva.out, ← Hpa.out]
                clear hw
                go_wp2_with fail
                refine (value_any t b A6 c6 _ LT7.out (by omega)).mono ?_
                rintro e w99 ⟨rfl, hw⟩
                rw [hw, ← Hvb.out, ← Hpb.out]
                clear hw
                go_wp2_with fail
                obtain ⟨W, hW⟩ : ∃ W, W = w7 := ⟨_, rfl⟩
                subst hW
                refine wp_region_held_drew (S := (fun w' => w'.cell? ⟨w.heap.size, 0, none⟩ = some (.slice A h.objs.length c) ∧ w'.cell? ⟨w.heap.size, 1, none⟩ = some (.int .i64 h.cap) ∧ w'.cell? ⟨w.heap.size, 2, none⟩ = some (.int .i64 h.last) ∧ w'.cell? ⟨w.heap.size + 1, 0, none⟩ = some (.int .i64 a) ∧ w'.cell? ⟨w.heap.size + 1, 1, none⟩ = some (.int .i64 b) ∧ Below W.heap.size W w')) (by kernel_rfl) ?_ (fun hHeld => ?_)
                · exact ⟨x0, x1, x2, y0, y1, (Below.refl _ _).drew⟩
                refine wpAnyH_take (i := 0) (oi := { dst := some 91, op := Go.Op.load 24 (Go.Operand.tmp 3), type := 24, pos := "law.go:151", after := #[], guard := none }) (v := ?vv1) rfl (by kernel_rfl) (by kernel_rfl) (by kernel_rfl) (fun _ _ _ h => h) (Or.inl ⟨by rfl, ?hy1⟩) (by assumption) ?rr1
                case hy1 => intro w hSw; (try dsimp only at hSw); go_simp; all_goals with_reducible rfl
                try simp only [Act.put, List.setIfInBounds_toArray, List.set_cons_zero, List.set_cons_succ]
                refine wpAnyH_take (i := 1) (oi := { dst := some 92, op := Go.Op.indexAddr 62 (Go.Operand.tmp 5) (Go.Operand.const (Go.Value.int Go.IntKind.i64 0)), type := 0, pos := "law.go:151", after := #[], guard := none }) (v := ?vv2) rfl (by kernel_rfl) (by kernel_rfl) (by kernel_rfl) (fun _ _ _ h => h) (Or.inl ⟨by rfl, ?hy2⟩) (by assumption) ?rr2
                case hy2 => intro w hSw; (try dsimp only at hSw); go_simp; all_goals with_reducible rfl
                try simp only [Act.put, List.setIfInBounds_toArray, List.set_cons_zero, List.set_cons_succ]
                refine wpAnyH_take (i := 2) (oi := { dst := some 93, op := Go.Op.load 3 (Go.Operand.tmp 92), type := 3, pos := "law.go:151", after := #[{ on := 1, ground := Go.Ground.data }], guard := none }) (v := ?vv3) rfl (by kernel_rfl) (by kernel_rfl) (by kernel_rfl) (fun _ _ _ h => h) (Or.inl ⟨by rfl, ?hy3⟩) (by assumption) ?rr3
                case hy3 => intro w hSw; (try dsimp only at hSw); go_simp; all_goals with_reducible rfl
                try simp only [Act.put, List.setIfInBounds_toArray, List.set_cons_zero, List.set_cons_succ]
                refine wpAnyH_take (i := 4) (oi := { dst := some 95, op := Go.Op.load 24 (Go.Operand.tmp 3), type := 24, pos := "law.go:151", after := #[], guard := none }) (v := ?vv4) rfl (by kernel_rfl) (by kernel_rfl) (by kernel_rfl) (fun _ _ _ h => h) (Or.inl ⟨by rfl, ?hy4⟩) (by assumption) ?rr4
                case hy4 => intro w hSw; (try dsimp only at hSw); go_simp; all_goals with_reducible rfl
                try simp only [Act.put, List.setIfInBounds_toArray, List.set_cons_zero, List.set_cons_succ]
                refine wpAnyH_take (i := 5) (oi := { dst := some 96, op := Go.Op.indexAddr 62 (Go.Operand.tmp 5) (Go.Operand.const (Go.Value.int Go.IntKind.i64 1)), type := 0, pos := "law.go:151", after := #[], guard := none }) (v := ?vv5) rfl (by kernel_rfl) (by kernel_rfl) (by kernel_rfl) (fun _ _ _ h => h) (Or.inl ⟨by rfl, ?hy5⟩) (by assumption) ?rr5
                case hy5 => intro w hSw; (try dsimp only at hSw); go_simp; all_goals with_reducible rfl
                try simp only [Act.put, List.setIfInBounds_toArray, List.set_cons_zero, List.set_cons_succ]
                refine wpAnyH_take (i := 6) (oi := { dst := some 97, op := Go.Op.load 3 (Go.Operand.tmp 96), type := 3, pos := "law.go:151", after := #[{ on := 5, ground := Go.Ground.data }], guard := none }) (v := ?vv6) rfl (by kernel_rfl) (by kernel_rfl) (by kernel_rfl) (fun _ _ _ h => h) (Or.inl ⟨by rfl, ?hy6⟩) (by assumption) ?rr6
                case hy6 => intro w hSw; (try dsimp only at hSw); go_simp; all_goals with_reducible rfl
                try simp only [Act.put, List.setIfInBounds_toArray, List.set_cons_zero, List.set_cons_succ]
                refine wpAnyH_ready (rs := [3]) (by kernel_rfl) (by simp) ?_
                refine AllReadyH.cons (i := 3) (o := { dst := some 94, op := Go.Op.call { callee := Go.Callee.value (Go.Operand.func 34), args := #[Go.Operand.tmp 91, Go.Operand.tmp 93], argTypes := #[24, 3] }, type := 3, pos := "law.go:151", after := #[{ on := 0, ground := Go.Ground.data }, { on := 2, ground := Go.Ground.data }], guard := none }) rfl (fun K hK => ?_) AllReadyH.nil
                go_simp
                go_at_call 34
                refine (rref_any h a A c _).mono ?_
                rintro e w' ⟨rfl, hb⟩
                rw [← Hra.out]
                refine hK.out _ _ ?_ (fun hHeld => ?_)
                · exact ⟨cell_later hb x0, cell_later hb x1, cell_later hb x2, cell_later hb y0, cell_later hb y1, then_b (Below.refl _ _).drew hb⟩
                clear hK K
                try simp only [Act.put, List.setIfInBounds_toArray, List.set_cons_zero, List.set_cons_succ]
                have hH1 := hHeld
                clear hHeld hb
                have hHeld := hH1
                refine wpAnyH_ready (rs := [7]) (by kernel_rfl) (by simp) ?_
                refine AllReadyH.cons (i := 7) (o := { dst := some 98, op := Go.Op.call { callee := Go.Callee.value (Go.Operand.func 34), args := #[Go.Operand.tmp 95, Go.Operand.tmp 97], argTypes := #[24, 3] }, type := 3, pos := "law.go:151", after := #[{ on := 4, ground := Go.Ground.data }, { on := 6, ground := Go.Ground.data }, { on := 3, ground := Go.Ground.chain }], guard := none }) rfl (fun K hK => ?_) AllReadyH.nil
                go_simp
                go_at_call 34
                refine (rref_any h b A c _).mono ?_
                rintro e w' ⟨rfl, hb⟩
                rw [← Hrb.out]
                refine hK.out _ _ ?_ (fun hHeld => ?_)
                · exact ⟨cell_later hb hH1.1, cell_later hb hH1.2.1, cell_later hb hH1.2.2.1, cell_later hb hH1.2.2.2.1, cell_later hb hH1.2.2.2.2.1, hH1.2.2.2.2.2.trans (hb.mono hH1.2.2.2.2.2.size)⟩
                clear hK K
                try simp only [Act.put, List.setIfInBounds_toArray, List.set_cons_zero, List.set_cons_succ]
                have hH2 := hHeld
                clear hHeld hb
                have hHeld := hH2
                refine wpAnyH_take (i := 8) (oi := { dst := some 15, op := Go.Op.assign (Go.Operand.tmp 94), type := 3, pos := "law.go:151", after := #[{ on := 3, ground := Go.Ground.data }, { on := 7, ground := Go.Ground.chain }, { on := 0, ground := Go.Ground.phase }, { on := 1, ground := Go.Ground.phase }, { on := 2, ground := Go.Ground.phase }, { on := 3, ground := Go.Ground.phase }, { on := 4, ground := Go.Ground.textOnly Go.Departure.lateStores }, { on := 5, ground := Go.Ground.textOnly Go.Departure.lateStores }, { on := 6, ground := Go.Ground.textOnly Go.Departure.lateStores }, { on := 7, ground := Go.Ground.textOnly Go.Departure.lateStoresUnsure }], guard := none }) (v := ?vv7) rfl (by kernel_rfl) (by kernel_rfl) (by kernel_rfl) (fun _ _ _ h => h) (Or.inl ⟨by rfl, ?hy7⟩) (by assumption) ?rr7
                case hy7 => intro w hSw; (try dsimp only at hSw); go_simp; all_goals with_reducible rfl
                try simp only [Act.put, List.setIfInBounds_toArray, List.set_cons_zero, List.set_cons_succ]
                refine wpAnyH_take (i := 9) (oi := { dst := some 16, op := Go.Op.assign (Go.Operand.tmp 98), type := 3, pos := "law.go:151", after := #[{ on := 7, ground := Go.Ground.data }, { on := 8, ground := Go.Ground.chain }, { on := 0, ground := Go.Ground.phase }, { on := 1, ground := Go.Ground.phase }, { on := 2, ground := Go.Ground.phase }, { on := 3, ground := Go.Ground.phase }, { on := 4, ground := Go.Ground.phase }, { on := 5, ground := Go.Ground.phase }, { on := 6, ground := Go.Ground.phase }, { on := 7, ground := Go.Ground.phase }, { on := 8, ground := Go.Ground.phase }], guard := none }) (v := ?vv8) rfl (by kernel_rfl) (by kernel_rfl) (by kernel_rfl) (fun _ _ _ h => h) (Or.inl ⟨by rfl, ?hy8⟩) (by assumption) ?rr8
                case hy8 => intro w hSw; (try dsimp only at hSw); go_simp; all_goals with_reducible rfl
                try simp only [Act.put, List.setIfInBounds_toArray, List.set_cons_zero, List.set_cons_succ]
                refine wpAnyH_done (by kernel_rfl) ?_ _
                have hHeldB := hHeld.2.2.2.2.2
                have HB8 := hid (HB7.out.trans (hHeldB.mono HB7.out.size))
                have Y8 := hid (Y7.out.later hHeldB)
                have LL8 := hid (LL7.out.below hHeldB)
                clear hHeld hHeldB hH1 hH2 x0 x1 x2 y0 y1
                rcases HVA.out with ⟨hra, hpa⟩ | ⟨hra, hia⟩
                · subst hpa
                  rcases HVB.out with ⟨hrb, hpb⟩ | ⟨hrb, hib⟩
                  · subst hpb
                    rcases HVI.out rfl rfl with ⟨hab, hv⟩ | ⟨hab, hv⟩
                    · subst hab
                      subst hv
                      have y0 := Y8.out.cell 0
                      have y1 := Y8.out.cell 1
                      simp only [List.getElem?_toArray, List.getElem?_cons_zero, List.getElem?_cons_succ] at y0 y1
                      go_wp2_with fail
                      go_ret
                      first | exact ⟨rfl, HB8.out⟩ | exact ⟨by simp; omega, HB8.out⟩
                    · have y0 := Y8.out.cell 0
                      have y1 := Y8.out.cell 1
                      simp only [List.getElem?_toArray, List.getElem?_cons_zero, List.getElem?_cons_succ] at y0 y1
                      go_wp2_with fail
                      go_ret
                      first | exact ⟨rfl, HB8.out⟩ | exact ⟨by simp; omega, HB8.out⟩
                  · cases pb
                    · have y0 := Y8.out.cell 0
                      have y1 := Y8.out.cell 1
                      simp only [List.getElem?_toArray, List.getElem?_cons_zero, List.getElem?_cons_succ] at y0 y1
                      go_wp2_with fail
                      refine (in_any L rb A7 c7 _ LL8.out (by omega)).mono ?_
                      rintro e w9 ⟨rfl, hb⟩
                      rw [hib]
                      have HB9 := hid (HB8.out.trans (hb.mono HB8.out.size))
                      have Y9 := hid (Y8.out.later hb)
                      have LL9 := hid (LL8.out.below hb)
                      clear y0 y1
                      clear hb
                      have y0 := Y9.out.cell 0
                      have y1 := Y9.out.cell 1
                      simp only [List.getElem?_toArray, List.getElem?_cons_zero, List.getElem?_cons_succ] at y0 y1
                      go_wp2_with fail
                      go_ret
                      first | exact ⟨rfl, HB9.out⟩ | exact ⟨by simp; omega, HB9.out⟩
                    · rcases HVI.out rfl rfl with ⟨hab, hv⟩ | ⟨hab, hv⟩
                      · subst hab
                        subst hv
                        have y0 := Y8.out.cell 0
                        have y1 := Y8.out.cell 1
                        simp only [List.getElem?_toArray, List.getElem?_cons_zero, List.getElem?_cons_succ] at y0 y1
                        go_wp2_with fail
                        refine (in_any L rb A7 c7 _ LL8.out (by omega)).mono ?_
                        rintro e w9 ⟨rfl, hb⟩
                        rw [hib]
                        have HB9 := hid (HB8.out.trans (hb.mono HB8.out.size))
                        have Y9 := hid (Y8.out.later hb)
                        have LL9 := hid (LL8.out.below hb)
                        clear y0 y1
                        clear hb
                        have y0 := Y9.out.cell 0
                        have y1 := Y9.out.cell 1
                        simp only [List.getElem?_toArray, List.getElem?_cons_zero, List.getElem?_cons_succ] at y0 y1
                        go_wp2_with fail
                        go_ret
                        first | exact ⟨rfl, HB9.out⟩ | exact ⟨by simp; omega, HB9.out⟩
                      · have y0 := Y8.out.cell 0
                        have y1 := Y8.out.cell 1
                        simp only [List.getElem?_toArray, List.getElem?_cons_zero, List.getElem?_cons_succ] at y0 y1
                        go_wp2_with fail
                        refine (in_any L rb A7 c7 _ LL8.out (by omega)).mono ?_
                        rintro e w9 ⟨rfl, hb⟩
                        rw [hib]
                        have HB9 := hid (HB8.out.trans (hb.mono HB8.out.size))
                        have Y9 := hid (Y8.out.later hb)
                        have LL9 := hid (LL8.out.below hb)
                        clear y0 y1
                        clear hb
                        have y0 := Y9.out.cell 0
                        have y1 := Y9.out.cell 1
                        simp only [List.getElem?_toArray, List.getElem?_cons_zero, List.getElem?_cons_succ] at y0 y1
                        go_wp2_with fail
                        go_ret
                        first | exact ⟨rfl, HB9.out⟩ | exact ⟨by simp; omega, HB9.out⟩
                · cases pa
                  · rcases HVB.out with ⟨hrb, hpb⟩ | ⟨hrb, hib⟩
                    · subst hpb
                      have y0 := Y8.out.cell 0
                      have y1 := Y8.out.cell 1
                      simp only [List.getElem?_toArray, List.getElem?_cons_zero, List.getElem?_cons_succ] at y0 y1
                      go_wp2_with fail
                      refine (in_any L ra A7 c7 _ LL8.out (by omega)).mono ?_
                      rintro e w9 ⟨rfl, hb⟩
                      rw [hia]
                      have HB9 := hid (HB8.out.trans (hb.mono HB8.out.size))
                      have Y9 := hid (Y8.out.later hb)
                      have LL9 := hid (LL8.out.below hb)
                      clear y0 y1
                      clear hb
                      have y0 := Y9.out.cell 0
                      have y1 := Y9.out.cell 1
                      simp only [List.getElem?_toArray, List.getElem?_cons_zero, List.getElem?_cons_succ] at y0 y1
                      go_wp2_with fail
                      go_ret
                      first | exact ⟨rfl, HB9.out⟩ | exact ⟨by simp; omega, HB9.out⟩
                    · cases pb
                      · have y0 := Y8.out.cell 0
                        have y1 := Y8.out.cell 1
                        simp only [List.getElem?_toArray, List.getElem?_cons_zero, List.getElem?_cons_succ] at y0 y1
                        go_wp2_with fail
                        refine (in_any L ra A7 c7 _ LL8.out (by omega)).mono ?_
                        rintro e w9 ⟨rfl, hb⟩
                        rw [hia]
                        have HB9 := hid (HB8.out.trans (hb.mono HB8.out.size))
                        have Y9 := hid (Y8.out.later hb)
                        have LL9 := hid (LL8.out.below hb)
                        clear y0 y1
                        clear hb
                        have y0 := Y9.out.cell 0
                        have y1 := Y9.out.cell 1
                        simp only [List.getElem?_toArray, List.getElem?_cons_zero, List.getElem?_cons_succ] at y0 y1
                        go_wp2_with fail
                        refine (in_any L rb A7 c7 _ LL9.out (by omega)).mono ?_
                        rintro e w10 ⟨rfl, hb⟩
                        rw [hib]
                        have HB10 := hid (HB9.out.trans (hb.mono HB9.out.size))
                        have Y10 := hid (Y9.out.later hb)
                        have LL10 := hid (LL9.out.below hb)
                        clear y0 y1
                        clear hb
                        have y0 := Y10.out.cell 0
                        have y1 := Y10.out.cell 1
                        simp only [List.getElem?_toArray, List.getElem?_cons_zero, List.getElem?_cons_succ] at y0 y1
                        go_wp2_with fail
                        go_ret
                        first | exact ⟨rfl, HB10.out⟩ | exact ⟨by simp; omega, HB10.out⟩
                      · have y0 := Y8.out.cell 0
                        have y1 := Y8.out.cell 1
                        simp only [List.getElem?_toArray, List.getElem?_cons_zero, List.getElem?_cons_succ] at y0 y1
                        go_wp2_with fail
                        refine (in_any L ra A7 c7 _ LL8.out (by omega)).mono ?_
                        rintro e w9 ⟨rfl, hb⟩
                        rw [hia]
                        have HB9 := hid (HB8.out.trans (hb.mono HB8.out.size))
                        have Y9 := hid (Y8.out.later hb)
                        have LL9 := hid (LL8.out.below hb)
                        clear y0 y1
                        clear hb
                        have y0 := Y9.out.cell 0
                        have y1 := Y9.out.cell 1
                        simp only [List.getElem?_toArray, List.getElem?_cons_zero, List.getElem?_cons_succ] at y0 y1
                        go_wp2_with fail
                        refine (in_any L rb A7 c7 _ LL9.out (by omega)).mono ?_
                        rintro e w10 ⟨rfl, hb⟩
                        rw [hib]
                        have HB10 := hid (HB9.out.trans (hb.mono HB9.out.size))
                        have Y10 := hid (Y9.out.later hb)
                        have LL10 := hid (LL9.out.below hb)
                        clear y0 y1
                        clear hb
                        have y0 := Y10.out.cell 0
                        have y1 := Y10.out.cell 1
                        simp only [List.getElem?_toArray, List.getElem?_cons_zero, List.getElem?_cons_succ] at y0 y1
                        go_wp2_with fail
                        go_ret
                        first | exact ⟨rfl, HB10.out⟩ | exact ⟨by simp; omega, HB10.out⟩
                  · rcases HVB.out with ⟨hrb, hpb⟩ | ⟨hrb, hib⟩
                    · subst hpb
                      rcases HVI.out rfl rfl with ⟨hab, hv⟩ | ⟨hab, hv⟩
                      · subst hab
                        subst hv
                        have y0 := Y8.out.cell 0
                        have y1 := Y8.out.cell 1
                        simp only [List.getElem?_toArray, List.getElem?_cons_zero, List.getElem?_cons_succ] at y0 y1
                        go_wp2_with fail
                        refine (in_any L ra A7 c7 _ LL8.out (by omega)).mono ?_
                        rintro e w9 ⟨rfl, hb⟩
                        rw [hia]
                        have HB9 := hid (HB8.out.trans (hb.mono HB8.out.size))
                        have Y9 := hid (Y8.out.later hb)
                        have LL9 := hid (LL8.out.below hb)
                        clear y0 y1
                        clear hb
                        have y0 := Y9.out.cell 0
                        have y1 := Y9.out.cell 1
                        simp only [List.getElem?_toArray, List.getElem?_cons_zero, List.getElem?_cons_succ] at y0 y1
                        go_wp2_with fail
                        go_ret
                        first | exact ⟨rfl, HB9.out⟩ | exact ⟨by simp; omega, HB9.out⟩
                      · have y0 := Y8.out.cell 0
                        have y1 := Y8.out.cell 1
                        simp only [List.getElem?_toArray, List.getElem?_cons_zero, List.getElem?_cons_succ] at y0 y1
                        go_wp2_with fail
                        refine (in_any L ra A7 c7 _ LL8.out (by omega)).mono ?_
                        rintro e w9 ⟨rfl, hb⟩
                        rw [hia]
                        have HB9 := hid (HB8.out.trans (hb.mono HB8.out.size))
                        have Y9 := hid (Y8.out.later hb)
                        have LL9 := hid (LL8.out.below hb)
                        clear y0 y1
                        clear hb
                        have y0 := Y9.out.cell 0
                        have y1 := Y9.out.cell 1
                        simp only [List.getElem?_toArray, List.getElem?_cons_zero, List.getElem?_cons_succ] at y0 y1
                        go_wp2_with fail
                        go_ret
                        first | exact ⟨rfl, HB9.out⟩ | exact ⟨by simp; omega, HB9.out⟩
                    · cases pb
                      · have y0 := Y8.out.cell 0
                        have y1 := Y8.out.cell 1
                        simp only [List.getElem?_toArray, List.getElem?_cons_zero, List.getElem?_cons_succ] at y0 y1
                        go_wp2_with fail
                        refine (in_any L ra A7 c7 _ LL8.out (by omega)).mono ?_
                        rintro e w9 ⟨rfl, hb⟩
                        rw [hia]
                        have HB9 := hid (HB8.out.trans (hb.mono HB8.out.size))
                        have Y9 := hid (Y8.out.later hb)
                        have LL9 := hid (LL8.out.below hb)
                        clear y0 y1
                        clear hb
                        have y0 := Y9.out.cell 0
                        have y1 := Y9.out.cell 1
                        simp only [List.getElem?_toArray, List.getElem?_cons_zero, List.getElem?_cons_succ] at y0 y1
                        go_wp2_with fail
                        refine (in_any L rb A7 c7 _ LL9.out (by omega)).mono ?_
                        rintro e w10 ⟨rfl, hb⟩
                        rw [hib]
                        have HB10 := hid (HB9.out.trans (hb.mono HB9.out.size))
                        have Y10 := hid (Y9.out.later hb)
                        have LL10 := hid (LL9.out.below hb)
                        clear y0 y1
                        clear hb
                        have y0 := Y10.out.cell 0
                        have y1 := Y10.out.cell 1
                        simp only [List.getElem?_toArray, List.getElem?_cons_zero, List.getElem?_cons_succ] at y0 y1
                        go_wp2_with fail
                        go_ret
                        first | exact ⟨rfl, HB10.out⟩ | exact ⟨by simp; omega, HB10.out⟩
                      · rcases HVI.out rfl rfl with ⟨hab, hv⟩ | ⟨hab, hv⟩
                        · subst hab
                          subst hv
                          have y0 := Y8.out.cell 0
                          have y1 := Y8.out.cell 1
                          simp only [List.getElem?_toArray, List.getElem?_cons_zero, List.getElem?_cons_succ] at y0 y1
                          go_wp2_with fail
                          refine (in_any L ra A7 c7 _ LL8.out (by omega)).mono ?_
                          rintro e w9 ⟨rfl, hb⟩
                          rw [hia]
                          have HB9 := hid (HB8.out.trans (hb.mono HB8.out.size))
                          have Y9 := hid (Y8.out.later hb)
                          have LL9 := hid (LL8.out.below hb)
                          clear y0 y1
                          clear hb
                          have y0 := Y9.out.cell 0
                          have y1 := Y9.out.cell 1
                          simp only [List.getElem?_toArray, List.getElem?_cons_zero, List.getElem?_cons_succ] at y0 y1
                          go_wp2_with fail
                          refine (in_any L rb A7 c7 _ LL9.out (by omega)).mono ?_
                          rintro e w10 ⟨rfl, hb⟩
                          rw [hib]
                          have HB10 := hid (HB9.out.trans (hb.mono HB9.out.size))
                          have Y10 := hid (Y9.out.later hb)
                          have LL10 := hid (LL9.out.below hb)
                          clear y0 y1
                          clear hb
                          have y0 := Y10.out.cell 0
                          have y1 := Y10.out.cell 1
                          simp only [List.getElem?_toArray, List.getElem?_cons_zero, List.getElem?_cons_succ] at y0 y1
                          go_wp2_with fail
                          go_ret
                          first | exact ⟨rfl, HB10.out⟩ | exact ⟨by simp; omega, HB10.out⟩
                        · have y0 := Y8.out.cell 0
                          have y1 := Y8.out.cell 1
                          simp only [List.getElem?_toArray, List.getElem?_cons_zero, List.getElem?_cons_succ] at y0 y1
                          go_wp2_with fail
                          refine (in_any L ra A7 c7 _ LL8.out (by omega)).mono ?_
                          rintro e w9 ⟨rfl, hb⟩
                          rw [hia]
                          have HB9 := hid (HB8.out.trans (hb.mono HB8.out.size))
                          have Y9 := hid (Y8.out.later hb)
                          have LL9 := hid (LL8.out.below hb)
                          clear y0 y1
                          clear hb
                          have y0 := Y9.out.cell 0
                          have y1 := Y9.out.cell 1
                          simp only [List.getElem?_toArray, List.getElem?_cons_zero, List.getElem?_cons_succ] at y0 y1
                          go_wp2_with fail
                          refine (in_any L rb A7 c7 _ LL9.out (by omega)).mono ?_
                          rintro e w10 ⟨rfl, hb⟩
                          rw [hib]
                          have HB10 := hid (HB9.out.trans (hb.mono HB9.out.size))
                          have Y10 := hid (Y9.out.later hb)
                          have LL10 := hid (LL9.out.below hb)
                          clear y0 y1
                          clear hb
                          have y0 := Y10.out.cell 0
                          have y1 := Y10.out.cell 1
                          simp only [List.getElem?_toArray, List.getElem?_cons_zero, List.getElem?_cons_succ] at y0 y1
                          go_wp2_with fail
                          go_ret
                          first | exact ⟨rfl, HB10.out⟩ | exact ⟨by simp; omega, HB10.out⟩
              · obtain ⟨en, hen⟩ : ∃ en, en = liE h rs := ⟨_, rfl⟩
                have hne : (en != 0) = true := by rw [hen]; simpa using he
                have HE := hid hen
                clear he hen ha hb
                go_wp2_with fail
                refine (table_any h rs A R c d _ O5.out HF.out R5.out hl).mono ?_
                rintro e w6 ⟨A6, c6, rfl, -, -, -, hb⟩
                rw [← HE.out]
                have HB6 := hid (HB5.out.trans (hb.mono HB5.out.size))
                have X6 := hid (X5.out.later hb)
                have Y6 := hid (Y5.out.later hb)
                have O6 := hid (O5.out.below hb)
                have R6 := hid (R5.out.below hb)
                clear x0 x1 x2 y0 y1
                clear hb
                have x0 := X6.out.cell 0
                have x1 := X6.out.cell 1
                have x2 := X6.out.cell 2
                have y0 := Y6.out.cell 0
                have y1 := Y6.out.cell 1
                simp only [List.getElem?_toArray, List.getElem?_cons_zero, List.getElem?_cons_succ] at x0 x1 x2 y0 y1
                go_wp2_with fail
                refine (rlive_any h rs A R c d _ O6.out HF.out R6.out hl).mono ?_
                rintro e w7 ⟨A7, c7, rfl, -, -, -, hb⟩
                rw [← HE.out]
                have HB7 := hid (HB6.out.trans (hb.mono HB6.out.size))
                have X7 := hid (X6.out.later hb)
                have Y7 := hid (Y6.out.later hb)
                have O7 := hid (O6.out.below hb)
                have R7 := hid (R6.out.below hb)
                clear x0 x1 x2 y0 y1
                clear hb
                have x0 := X7.out.cell 0
                have x1 := X7.out.cell 1
                have x2 := X7.out.cell 2
                have y0 := Y7.out.cell 0
                have y1 := Y7.out.cell 1
                simp only [List.getElem?_toArray, List.getElem?_cons_zero, List.getElem?_cons_succ] at x0 x1 x2 y0 y1
                go_wp2_with fail
                go_ret
                exact ⟨rfl, HB7.out⟩
end Go.Proofs.Ytelljlmjhnjpiaa
