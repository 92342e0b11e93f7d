/- LookLays walked: whatever heap, class and values, it answers true. -/
import Derived.Test.YtfdjghllnbiffaaWF9
import Derived.Test.YtfdjghllnbiffaaSG9
import Derived.Test.YtfdjghllnbiffaaWH9
import Derived.Test.YtfdjghllnbiffaaU
namespace Go.Proofs.Ytfdjghllnbiffaa
open Go.RowKit
set_option maxRecDepth 100000
theorem fit_ly9 {h : Hp} (hm : mayB h = true) : h.Fit := by
  refine ⟨by have := may_len hm; omega, fun o ho => ?_⟩
  have := (kind_len (ob_kind (may_all hm o ho))).1
  show o.slots.length ≤ _
  omega
theorem far_cell9 {w : World} {g j g' o : Nat} {u v : Value} (hne : g' ≠ g) (h : w.cell? ⟨g', o, none⟩ = some v) : (w.setCell ⟨g, j, none⟩ u).cell? ⟨g', o, none⟩ = some v :=
  (World.cell?_setCell_other _ _ _ _ (by intro e; injection e with e1; exact hne e1.symm)).trans h
theorem gclass9 (h : Hp) (d x y c : Int) (A : Option Addr) (k : Nat) (w : World) (hs : ObsR w A (ly9 h d x y).objs) (fit : (ly9 h d x y).Fit) :
    Calls Try.prog 37 #[.agg #[.slice A h.objs.length k, .int .i64 h.cap, .int .i64 h.last], .int .i64 c] w fun e w' => e = .returned (.bool (clB9 (ly9 h d x y) c)) ∧ Below w.heap.size w w' := by
  have q := rclass_any9 (ly9 h d x y) c A k w hs fit
  rw [ly9_len] at q
  exact q
theorem gfind9 (h : Hp) (d x y c s : Int) (A : Option Addr) (k : Nat) (w : World) (hs : ObsR w A (ly9 h d x y).objs) (fit : (ly9 h d x y).Fit) :
    Calls Try.prog 35 #[.agg #[.slice A h.objs.length k, .int .i64 h.cap, .int .i64 h.last], .int .i64 c, .int .i64 s] w fun e w' => e = .returned (.tuple #[.int .i64 (lk9 (ly9 h d x y) c s).1, .int .i64 (lk9 (ly9 h d x y) c s).2.1, .int .i64 (lk9 (ly9 h d x y) c s).2.2]) ∧ Below w.heap.size w w' := by
  have q := lfind_any9 (ly9 h d x y) c s A k w hs fit
  rw [ly9_len] at q
  exact q
set_option maxHeartbeats 2000000 in
theorem lays9_any (h : Hp) (c p0 p1 p2 : Int) (A : Option Addr) (dA : Nat) (w : World) (hs : ObsR w A h.objs) (fit : h.Fit) :
    Calls Try.prog 11 #[.agg #[.slice A h.objs.length dA, .int .i64 h.cap, .int .i64 h.last], .int .i64 c, .agg #[.int .i64 p0, .int .i64 p1, .int .i64 p2]] w fun e w' => e = .returned (.bool true) ∧ Below w.heap.size w w' := by
  obtain ⟨w0, hw0⟩ : ∃ u, u = (w.alloc (.cells #[Value.slice A h.objs.length dA, Value.int .i64 h.cap, Value.int .i64 h.last] 24)).alloc (.cells #[.int .i64 p0, .int .i64 p1, .int .i64 p2] 50) := ⟨_, rfl⟩
  have HB0 : Hid (Below w.heap.size w w0) := by show Below _ _ _; rw [hw0]; exact below_alloc2 w (.cells #[Value.slice A h.objs.length dA, Value.int .i64 h.cap, Value.int .i64 h.last] 24) (.cells #[.int .i64 p0, .int .i64 p1, .int .i64 p2] 50)
  have X0 : Hid (Lies w0 w.heap.size 24 #[Value.slice A h.objs.length dA, Value.int .i64 h.cap, Value.int .i64 h.last]) := by show Lies _ _ _ _; rw [hw0]; exact (Lies.new w 24 _).alloc _
  have V0 : Hid (Lies w0 (w.heap.size + 1) 50 #[.int .i64 p0, .int .i64 p1, .int .i64 p2]) := by
    show Lies _ _ _ _
    rw [hw0]
    have := Lies.new (w.alloc (.cells #[Value.slice A h.objs.length dA, Value.int .i64 h.cap, Value.int .i64 h.last] 24)) 50 #[.int .i64 p0, .int .i64 p1, .int .i64 p2]
    simpa using this
  have O0 := hid (hs.below HB0.out)
  have HSO := hid hs
  have HF := hid fit
  clear hs fit
  go_enter Try.func11, Try.ntmps11
  go_upto_region 1 with fail
  rw [← hw0]
  clear hw0
  have x0 := X0.out.cell 0
  have x1 := X0.out.cell 1
  have x2 := X0.out.cell 2
  have v0 := V0.out.cell 0
  have v1 := V0.out.cell 1
  have v2 := V0.out.cell 2
  simp only [List.getElem?_toArray, List.getElem?_cons_zero, List.getElem?_cons_succ] at x0 x1 x2 v0 v1 v2
  go_wp2_with fail
  refine (fixed9_any _).mono ?_
  rintro e w1 ⟨rfl, hb⟩
  have HB1 := hid (HB0.out.trans (hb.mono HB0.out.size))
  have X1 := hid (X0.out.later hb)
  have V1 := hid (V0.out.later hb)
  have O1 := hid (O0.out.below hb)
  clear x0 x1 x2 v0 v1 v2
  clear hb
  have x0 := X1.out.cell 0
  have x1 := X1.out.cell 1
  have x2 := X1.out.cell 2
  have v0 := V1.out.cell 0
  have v1 := V1.out.cell 1
  have v2 := V1.out.cell 2
  simp only [List.getElem?_toArray, List.getElem?_cons_zero, List.getElem?_cons_succ] at x0 x1 x2 v0 v1 v2
  go_wp2_with fail
  refine (small_ok h A dA _ O1.out HF.out).mono ?_
  rintro e w2 ⟨sm, rfl, hb⟩
  have HB2 := hid (HB1.out.trans (hb.mono HB1.out.size))
  have X2 := hid (X1.out.later hb)
  have V2 := hid (V1.out.later hb)
  have O2 := hid (O1.out.below hb)
  clear x0 x1 x2 v0 v1 v2
  clear hb
  have x0 := X2.out.cell 0
  have x1 := X2.out.cell 1
  have x2 := X2.out.cell 2
  have v0 := V2.out.cell 0
  have v1 := V2.out.cell 1
  have v2 := V2.out.cell 2
  simp only [List.getElem?_toArray, List.getElem?_cons_zero, List.getElem?_cons_succ] at x0 x1 x2 v0 v1 v2
  cases sm
  · go_wp2_with fail
    refine (fixed9_any _).mono ?_
    rintro e w3 ⟨rfl, hb⟩
    have HB3 := hid (HB2.out.trans (hb.mono HB2.out.size))
    have X3 := hid (X2.out.later hb)
    have V3 := hid (V2.out.later hb)
    have O3 := hid (O2.out.below hb)
    clear x0 x1 x2 v0 v1 v2
    clear hb
    have x0 := X3.out.cell 0
    have x1 := X3.out.cell 1
    have x2 := X3.out.cell 2
    have v0 := V3.out.cell 0
    have v1 := V3.out.cell 1
    have v2 := V3.out.cell 2
    simp only [List.getElem?_toArray, List.getElem?_cons_zero, List.getElem?_cons_succ] at x0 x1 x2 v0 v1 v2
    go_wp2_with fail
    go_ret
    exact ⟨rfl, HB3.out⟩
  · by_cases q1 : 40 < h.objs.length
    · go_wp2_with fail
      refine (fixed9_any _).mono ?_
      rintro e w3 ⟨rfl, hb⟩
      have HB3 := hid (HB2.out.trans (hb.mono HB2.out.size))
      have X3 := hid (X2.out.later hb)
      have V3 := hid (V2.out.later hb)
      have O3 := hid (O2.out.below hb)
      clear x0 x1 x2 v0 v1 v2
      clear hb
      have x0 := X3.out.cell 0
      have x1 := X3.out.cell 1
      have x2 := X3.out.cell 2
      have v0 := V3.out.cell 0
      have v1 := V3.out.cell 1
      have v2 := V3.out.cell 2
      simp only [List.getElem?_toArray, List.getElem?_cons_zero, List.getElem?_cons_succ] at x0 x1 x2 v0 v1 v2
      go_wp2_with fail
      go_ret
      exact ⟨rfl, HB3.out⟩
    · go_wp2_with fail
      refine (rclass_any9 h c A dA _ O2.out HF.out).mono ?_
      rintro e w3 ⟨rfl, hb⟩
      have HB3 := hid (HB2.out.trans (hb.mono HB2.out.size))
      have X3 := hid (X2.out.later hb)
      have V3 := hid (V2.out.later hb)
      have O3 := hid (O2.out.below hb)
      clear x0 x1 x2 v0 v1 v2
      clear hb
      have x0 := X3.out.cell 0
      have x1 := X3.out.cell 1
      have x2 := X3.out.cell 2
      have v0 := V3.out.cell 0
      have v1 := V3.out.cell 1
      have v2 := V3.out.cell 2
      simp only [List.getElem?_toArray, List.getElem?_cons_zero, List.getElem?_cons_succ] at x0 x1 x2 v0 v1 v2
      cases hcl : clB9 h c
      · go_wp2_with fail
        refine (fixed9_any _).mono ?_
        rintro e w4 ⟨rfl, hb⟩
        have HB4 := hid (HB3.out.trans (hb.mono HB3.out.size))
        have X4 := hid (X3.out.later hb)
        have V4 := hid (V3.out.later hb)
        have O4 := hid (O3.out.below hb)
        clear x0 x1 x2 v0 v1 v2
        clear hb
        have x0 := X4.out.cell 0
        have x1 := X4.out.cell 1
        have x2 := X4.out.cell 2
        have v0 := V4.out.cell 0
        have v1 := V4.out.cell 1
        have v2 := V4.out.cell 2
        simp only [List.getElem?_toArray, List.getElem?_cons_zero, List.getElem?_cons_succ] at x0 x1 x2 v0 v1 v2
        go_wp2_with fail
        go_ret
        exact ⟨rfl, HB4.out⟩
      · have HCL := hid hcl
        clear hcl
        go_wp2_with fail
        refine (rhas_any h p0 A dA _).mono ?_
        rintro e w4 ⟨rfl, hb⟩
        have HB4 := hid (HB3.out.trans (hb.mono HB3.out.size))
        have X4 := hid (X3.out.later hb)
        have V4 := hid (V3.out.later hb)
        have O4 := hid (O3.out.below hb)
        clear x0 x1 x2 v0 v1 v2
        clear hb
        have x0 := X4.out.cell 0
        have x1 := X4.out.cell 1
        have x2 := X4.out.cell 2
        have v0 := V4.out.cell 0
        have v1 := V4.out.cell 1
        have v2 := V4.out.cell 2
        simp only [List.getElem?_toArray, List.getElem?_cons_zero, List.getElem?_cons_succ] at x0 x1 x2 v0 v1 v2
        cases hh0 : hasB h.objs.length p0
        · go_wp2_with fail
          refine (fixed9_any _).mono ?_
          rintro e w5 ⟨rfl, hb⟩
          have HB5 := hid (HB4.out.trans (hb.mono HB4.out.size))
          have X5 := hid (X4.out.later hb)
          have V5 := hid (V4.out.later hb)
          have O5 := hid (O4.out.below hb)
          clear x0 x1 x2 v0 v1 v2
          clear hb
          have x0 := X5.out.cell 0
          have x1 := X5.out.cell 1
          have x2 := X5.out.cell 2
          have v0 := V5.out.cell 0
          have v1 := V5.out.cell 1
          have v2 := V5.out.cell 2
          simp only [List.getElem?_toArray, List.getElem?_cons_zero, List.getElem?_cons_succ] at x0 x1 x2 v0 v1 v2
          go_wp2_with fail
          go_ret
          exact ⟨rfl, HB5.out⟩
        · have HH0 := hid hh0
          clear hh0
          go_wp2_with fail
          refine (rhas_any h p1 A dA _).mono ?_
          rintro e w5 ⟨rfl, hb⟩
          have HB5 := hid (HB4.out.trans (hb.mono HB4.out.size))
          have X5 := hid (X4.out.later hb)
          have V5 := hid (V4.out.later hb)
          have O5 := hid (O4.out.below hb)
          clear x0 x1 x2 v0 v1 v2
          clear hb
          have x0 := X5.out.cell 0
          have x1 := X5.out.cell 1
          have x2 := X5.out.cell 2
          have v0 := V5.out.cell 0
          have v1 := V5.out.cell 1
          have v2 := V5.out.cell 2
          simp only [List.getElem?_toArray, List.getElem?_cons_zero, List.getElem?_cons_succ] at x0 x1 x2 v0 v1 v2
          cases hh1 : hasB h.objs.length p1
          · go_wp2_with fail
            refine (fixed9_any _).mono ?_
            rintro e w6 ⟨rfl, hb⟩
            have HB6 := hid (HB5.out.trans (hb.mono HB5.out.size))
            have X6 := hid (X5.out.later hb)
            have V6 := hid (V5.out.later hb)
            have O6 := hid (O5.out.below hb)
            clear x0 x1 x2 v0 v1 v2
            clear hb
            have x0 := X6.out.cell 0
            have x1 := X6.out.cell 1
            have x2 := X6.out.cell 2
            have v0 := V6.out.cell 0
            have v1 := V6.out.cell 1
            have v2 := V6.out.cell 2
            simp only [List.getElem?_toArray, List.getElem?_cons_zero, List.getElem?_cons_succ] at x0 x1 x2 v0 v1 v2
            go_wp2_with fail
            go_ret
            exact ⟨rfl, HB6.out⟩
          · have HH1 := hid hh1
            clear hh1
            obtain ⟨hr, hkd, hl3, hr0, hpd⟩ := cl9_parts HCL.out
            have hm : mayB h = true := by
              have z := HCL.out
              unfold clB9 at z
              simp only [Bool.and_eq_true] at z
              exact z.1
            have HM := hid hm
            obtain ⟨i, b, off, S, dd, hi, hil, rfl, hc, hint, -⟩ := ob_read9 HSO.out (Below.refl _ _) hr
            obtain ⟨bs, os, rfl, hbs, hcs⟩ := hint (by omega)
            have z1 := hcs 1 _ (sl_at9 (by omega))
            obtain ⟨d, hd⟩ : ∃ d, d = sl9 h c 1 := ⟨_, rfl⟩
            have HD := hid hd
            rw [← hd] at z1 hpd
            obtain ⟨nn, hnn⟩ : ∃ n, n = (obAt h c).slots.length := ⟨_, rfl⟩
            have k1 : 1 < nn := by omega
            have g1 : (1 : Int) < (nn : Int) := by omega
            have hlI : (i : Int) < (h.objs.length : Int) := by omega
            have C2 : Hid (w.cell? ⟨b, off + i * 6 + 2, none⟩ = some (.slice (some ⟨bs, os, none⟩) nn dd)) := by show _ = _; rw [hnn]; exact hc.c2
            have Z1 := hid z1
            have HPD := hid hpd
            have HRC := hid hr
            clear hr hkd hl3 hr0 hpd hm hc hint hcs z1 hd hnn
            have c2 := cell_later HB5.out C2.out
            have s1 := cell_later HB5.out Z1.out
            go_upto_region 3 with fail
            refine wp_region_held_drew (S := (fun w' => w'.cell? ⟨w.heap.size, 0, none⟩ = some (.slice (some ⟨b, off, none⟩) h.objs.length dA) ∧ w'.cell? ⟨w.heap.size, 1, none⟩ = some (.int .i64 h.cap) ∧ w'.cell? ⟨w.heap.size, 2, none⟩ = some (.int .i64 h.last) ∧ w'.cell? ⟨b, off + i * 6 + 2, none⟩ = some (.slice (some ⟨bs, os, none⟩) nn dd) ∧ w'.cell? ⟨bs, os + 1, none⟩ = some (.int .i64 d))) (by kernel_rfl) ?_ (fun hH0 => ?_)
            · exact ⟨x0, x1, x2, c2, s1⟩
            refine wpAnyH_take (i := 0) (oi := { dst := some 55, op := Go.Op.fieldAddr 24 (Go.Operand.tmp 3) 0, type := 0, pos := "law.go:94", after := #[], guard := none }) (v := ?vv130) rfl (by kernel_rfl) (by kernel_rfl) (by kernel_rfl) (fun _ _ _ h => h) (Or.inl ⟨by rfl, ?hy130⟩) (by assumption) ?rr130
            case hy130 => intro w hSw; (try dsimp only at hSw); go_simp; all_goals with_reducible rfl
            try simp only [Act.put, List.setIfInBounds_toArray, List.set_cons_zero, List.set_cons_succ]
            refine wpAnyH_take (i := 1) (oi := { dst := some 56, op := Go.Op.load 22 (Go.Operand.tmp 55), type := 22, pos := "law.go:94", after := #[{ on := 0, ground := Go.Ground.data }], guard := none }) (v := ?vv131) rfl (by kernel_rfl) (by kernel_rfl) (by kernel_rfl) (fun _ _ _ h => h) (Or.inl ⟨by rfl, ?hy131⟩) (by assumption) ?rr131
            case hy131 => intro w hSw; (try dsimp only at hSw); go_simp; all_goals with_reducible rfl
            try simp only [Act.put, List.setIfInBounds_toArray, List.set_cons_zero, List.set_cons_succ]
            refine wpAnyH_take (i := 2) (oi := { dst := some 57, op := Go.Op.load 24 (Go.Operand.tmp 3), type := 24, pos := "law.go:94", after := #[], guard := none }) (v := ?vv132) rfl (by kernel_rfl) (by kernel_rfl) (by kernel_rfl) (fun _ _ _ h => h) (Or.inl ⟨by rfl, ?hy132⟩) (by assumption) ?rr132
            case hy132 => intro w hSw; (try dsimp only at hSw); go_simp; all_goals with_reducible rfl
            try simp only [Act.put, List.setIfInBounds_toArray, List.set_cons_zero, List.set_cons_succ]
            refine wpAnyH_take (i := 3) (oi := { dst := some 58, op := Go.Op.move (Go.Operand.tmp 1), type := 3, pos := "law.go:94", after := #[], guard := none }) (v := ?vv133) rfl (by kernel_rfl) (by kernel_rfl) (by kernel_rfl) (fun _ _ _ h => h) (Or.inl ⟨by rfl, ?hy133⟩) (by assumption) ?rr133
            case hy133 => intro w hSw; (try dsimp only at hSw); go_simp; all_goals with_reducible rfl
            try simp only [Act.put, List.setIfInBounds_toArray, List.set_cons_zero, List.set_cons_succ]
            refine wpAnyH_ready (rs := [4]) (by kernel_rfl) (by simp) ?_
            refine AllReadyH.cons (i := 4) (o := { dst := some 59, op := Go.Op.call { callee := Go.Callee.value (Go.Operand.func 32), args := #[Go.Operand.tmp 57, Go.Operand.tmp 58], argTypes := #[24, 3] }, type := 3, pos := "law.go:94", after := #[{ on := 2, ground := Go.Ground.data }, { on := 3, ground := Go.Ground.data }], guard := none }) rfl (fun K hK => ?_) AllReadyH.nil
            go_simp
            go_at_call 32
            refine (rref_any h c (some ⟨b, off, none⟩) dA _).mono ?_
            rintro e u1 ⟨rfl, hb⟩
            rw [hi]
            have HV1 := hid (then_w (Below.refl w5.heap.size w5).drew hb)
            refine hK.out _ _ ?_ (fun hH1 => ?_)
            · exact ⟨cell_later hb hH0.1, cell_later hb hH0.2.1, cell_later hb hH0.2.2.1, cell_later hb hH0.2.2.2.1, cell_later hb hH0.2.2.2.2⟩
            clear hK K
            try simp only [Act.put, List.setIfInBounds_toArray, List.set_cons_zero, List.set_cons_succ]
            clear hb
            refine wpAnyH_take (i := 5) (oi := { dst := some 60, op := Go.Op.indexAddr 22 (Go.Operand.tmp 56) (Go.Operand.tmp 59), type := 0, pos := "law.go:94", after := #[{ on := 1, ground := Go.Ground.data }, { on := 4, ground := Go.Ground.data }], guard := none }) (v := ?vv134) rfl (by kernel_rfl) (by kernel_rfl) (by kernel_rfl) (fun _ _ _ h => h) (Or.inl ⟨by rfl, ?hy134⟩) (by assumption) ?rr134
            case hy134 => intro w hSw; (try dsimp only at hSw); go_simp; all_goals with_reducible rfl
            try simp only [Act.put, List.setIfInBounds_toArray, List.set_cons_zero, List.set_cons_succ]
            refine wpAnyH_take (i := 6) (oi := { dst := some 61, op := Go.Op.fieldAddr 46 (Go.Operand.tmp 60) 2, type := 0, pos := "law.go:94", after := #[{ on := 5, ground := Go.Ground.data }], guard := none }) (v := ?vv135) rfl (by kernel_rfl) (by kernel_rfl) (by kernel_rfl) (fun _ _ _ h => h) (Or.inl ⟨by rfl, ?hy135⟩) (by assumption) ?rr135
            case hy135 => intro w hSw; (try dsimp only at hSw); go_simp; all_goals with_reducible rfl
            try simp only [Act.put, List.setIfInBounds_toArray, List.set_cons_zero, List.set_cons_succ]
            refine wpAnyH_take (i := 7) (oi := { dst := some 62, op := Go.Op.load 44 (Go.Operand.tmp 61), type := 44, pos := "law.go:94", after := #[{ on := 6, ground := Go.Ground.data }], guard := none }) (v := ?vv136) rfl (by kernel_rfl) (by kernel_rfl) (by kernel_rfl) (fun _ _ _ h => h) (Or.inl ⟨by rfl, ?hy136⟩) (by assumption) ?rr136
            case hy136 => intro w hSw; (try dsimp only at hSw); go_simp; all_goals with_reducible rfl
            try simp only [Act.put, List.setIfInBounds_toArray, List.set_cons_zero, List.set_cons_succ]
            refine wpAnyH_take (i := 8) (oi := { dst := some 63, op := Go.Op.indexAddr 44 (Go.Operand.tmp 62) (Go.Operand.const (Go.Value.int Go.IntKind.i64 1)), type := 0, pos := "law.go:94", after := #[{ on := 7, ground := Go.Ground.data }], guard := none }) (v := ?vv137) rfl (by kernel_rfl) (by kernel_rfl) (by kernel_rfl) (fun _ _ _ h => h) (Or.inl ⟨by rfl, ?hy137⟩) (by assumption) ?rr137
            case hy137 => intro w hSw; (try dsimp only at hSw); go_simp; all_goals with_reducible rfl
            try simp only [Act.put, List.setIfInBounds_toArray, List.set_cons_zero, List.set_cons_succ]
            refine wpAnyH_take (i := 9) (oi := { dst := some 64, op := Go.Op.load 3 (Go.Operand.tmp 63), type := 3, pos := "law.go:94", after := #[{ on := 8, ground := Go.Ground.data }], guard := none }) (v := ?vv138) rfl (by kernel_rfl) (by kernel_rfl) (by kernel_rfl) (fun _ _ _ h => h) (Or.inl ⟨by rfl, ?hy138⟩) (by assumption) ?rr138
            case hy138 => intro w hSw; (try dsimp only at hSw); go_simp; all_goals with_reducible rfl
            try simp only [Act.put, List.setIfInBounds_toArray, List.set_cons_zero, List.set_cons_succ]
            refine wpAnyH_take (i := 10) (oi := { dst := some 7, op := Go.Op.assign (Go.Operand.tmp 64), type := 3, pos := "law.go:94", after := #[{ on := 9, ground := Go.Ground.data }, { on := 4, ground := Go.Ground.chain }, { on := 0, ground := Go.Ground.phase }, { on := 1, ground := Go.Ground.phase }, { on := 2, ground := Go.Ground.phase }, { on := 3, ground := Go.Ground.phase }, { on := 4, ground := Go.Ground.phase }, { on := 5, ground := Go.Ground.phase }, { on := 6, ground := Go.Ground.phase }, { on := 7, ground := Go.Ground.phase }, { on := 8, ground := Go.Ground.phase }, { on := 9, ground := Go.Ground.phase }], guard := none }) (v := ?vv139) rfl (by kernel_rfl) (by kernel_rfl) (by kernel_rfl) (fun _ _ _ h => h) (Or.inl ⟨by rfl, ?hy139⟩) (by assumption) ?rr139
            case hy139 => intro w hSw; (try dsimp only at hSw); go_simp; all_goals with_reducible rfl
            try simp only [Act.put, List.setIfInBounds_toArray, List.set_cons_zero, List.set_cons_succ]
            refine wpAnyH_done (by kernel_rfl) ?_ _
            obtain ⟨w6, hw⟩ : ∃ u, u = u1 := ⟨_, rfl⟩
            have hb := HV1.out
            rw [← hw] at hb ⊢
            have HB6 := hid (HB5.out.trans (hb.mono HB5.out.size))
            have X6 := hid (X5.out.later hb)
            have V6 := hid (V5.out.later hb)
            have O6 := hid (O5.out.below hb)
            clear hb hw HV1 hH0 hH1 x0 x1 x2 v0 v1 v2 c2 s1
            have x0 := X6.out.cell 0
            have x1 := X6.out.cell 1
            have x2 := X6.out.cell 2
            have v0 := V6.out.cell 0
            have v1 := V6.out.cell 1
            have v2 := V6.out.cell 2
            simp only [List.getElem?_toArray, List.getElem?_cons_zero, List.getElem?_cons_succ] at x0 x1 x2 v0 v1 v2
            by_cases hd0 : d = 0
            · subst hd0
              go_upto_region 4 with fail
              refine wp_region_held_drew (S := (fun w' => w'.cell? ⟨w.heap.size, 0, none⟩ = some (.slice (some ⟨b, off, none⟩) h.objs.length dA) ∧ w'.cell? ⟨w.heap.size, 1, none⟩ = some (.int .i64 h.cap) ∧ w'.cell? ⟨w.heap.size, 2, none⟩ = some (.int .i64 h.last))) (by kernel_rfl) ?_ (fun hH0 => ?_)
              · exact ⟨x0, x1, x2⟩
              refine wpAnyH_take (i := 0) (oi := { dst := some 65, op := Go.Op.move (Go.Operand.tmp 7), type := 3, pos := "law.go:95", after := #[], guard := none }) (v := ?vv140) rfl (by kernel_rfl) (by kernel_rfl) (by kernel_rfl) (fun _ _ _ h => h) (Or.inl ⟨by rfl, ?hy140⟩) (by assumption) ?rr140
              case hy140 => intro w hSw; (try dsimp only at hSw); go_simp; all_goals with_reducible rfl
              try simp only [Act.put, List.setIfInBounds_toArray, List.set_cons_zero, List.set_cons_succ]
              refine wpAnyH_take (i := 1) (oi := { dst := some 66, op := Go.Op.binOp Go.BinOp.eql 3 (Go.Operand.tmp 65) (Go.Operand.const (Go.Value.int Go.IntKind.i64 0)) 3, type := 4, pos := "law.go:95", after := #[{ on := 0, ground := Go.Ground.data }], guard := none }) (v := ?vv141) rfl (by kernel_rfl) (by kernel_rfl) (by kernel_rfl) (fun _ _ _ h => h) (Or.inl ⟨by rfl, ?hy141⟩) (by assumption) ?rr141
              case hy141 => intro w hSw; (try dsimp only at hSw); go_simp; all_goals with_reducible rfl
              try simp only [Act.put, List.setIfInBounds_toArray, List.set_cons_zero, List.set_cons_succ]
              refine wpAnyH_take (i := 2) (oi := { dst := some 67, op := Go.Op.move (Go.Operand.tmp 66), type := 4, pos := "law.go:95", after := #[{ on := 1, ground := Go.Ground.data }], guard := none }) (v := ?vv142) rfl (by kernel_rfl) (by kernel_rfl) (by kernel_rfl) (fun _ _ _ h => h) (Or.inl ⟨by rfl, ?hy142⟩) (by assumption) ?rr142
              case hy142 => intro w hSw; (try dsimp only at hSw); go_simp; all_goals with_reducible rfl
              try simp only [Act.put, List.setIfInBounds_toArray, List.set_cons_zero, List.set_cons_succ]
              refine wpAnyH_take (i := 3) (oi := { dst := some 68, op := Go.Op.move (Go.Operand.tmp 7), type := 3, pos := "law.go:95", after := #[{ on := 2, ground := Go.Ground.guard }], guard := some (2, false) }) (v := undef) rfl (by kernel_rfl) (by kernel_rfl) (by kernel_rfl) (fun _ _ _ h => h) (Or.inr ⟨by rfl, rfl⟩) (by assumption) ?_
              try simp only [Act.put, List.setIfInBounds_toArray, List.set_cons_zero, List.set_cons_succ]
              refine wpAnyH_take (i := 4) (oi := { dst := some 69, op := Go.Op.move (Go.Operand.tmp 1), type := 3, pos := "law.go:95", after := #[{ on := 2, ground := Go.Ground.guard }], guard := some (2, false) }) (v := undef) rfl (by kernel_rfl) (by kernel_rfl) (by kernel_rfl) (fun _ _ _ h => h) (Or.inr ⟨by rfl, rfl⟩) (by assumption) ?_
              try simp only [Act.put, List.setIfInBounds_toArray, List.set_cons_zero, List.set_cons_succ]
              refine wpAnyH_take (i := 5) (oi := { dst := some 70, op := Go.Op.binOp Go.BinOp.eql 3 (Go.Operand.tmp 68) (Go.Operand.tmp 69) 3, type := 4, pos := "law.go:95", after := #[{ on := 3, ground := Go.Ground.data }, { on := 4, ground := Go.Ground.data }, { on := 2, ground := Go.Ground.guard }], guard := some (2, false) }) (v := undef) rfl (by kernel_rfl) (by kernel_rfl) (by kernel_rfl) (fun _ _ _ h => h) (Or.inr ⟨by rfl, rfl⟩) (by assumption) ?_
              try simp only [Act.put, List.setIfInBounds_toArray, List.set_cons_zero, List.set_cons_succ]
              refine wpAnyH_take (i := 6) (oi := { dst := some 71, op := Go.Op.pick (Go.Operand.tmp 67) (Go.Operand.const (Go.Value.bool true)) (Go.Operand.tmp 70), type := 4, pos := "law.go:95", after := #[{ on := 2, ground := Go.Ground.data }, { on := 5, ground := Go.Ground.data }], guard := none }) (v := ?vv146) rfl (by kernel_rfl) (by kernel_rfl) (by kernel_rfl) (fun _ _ _ h => h) (Or.inl ⟨by rfl, ?hy146⟩) (by assumption) ?rr146
              case hy146 => intro w hSw; (try dsimp only at hSw); go_simp; all_goals with_reducible rfl
              try simp only [Act.put, List.setIfInBounds_toArray, List.set_cons_zero, List.set_cons_succ]
              refine wpAnyH_take (i := 7) (oi := { dst := some 72, op := Go.Op.move (Go.Operand.tmp 71), type := 4, pos := "law.go:95", after := #[{ on := 6, ground := Go.Ground.data }, { on := 2, ground := Go.Ground.chain }], guard := none }) (v := ?vv147) rfl (by kernel_rfl) (by kernel_rfl) (by kernel_rfl) (fun _ _ _ h => h) (Or.inl ⟨by rfl, ?hy147⟩) (by assumption) ?rr147
              case hy147 => intro w hSw; (try dsimp only at hSw); go_simp; all_goals with_reducible rfl
              try simp only [Act.put, List.setIfInBounds_toArray, List.set_cons_zero, List.set_cons_succ]
              refine wpAnyH_take (i := 8) (oi := { dst := some 73, op := Go.Op.fieldAddr 24 (Go.Operand.tmp 3) 0, type := 0, pos := "law.go:95", after := #[{ on := 7, ground := Go.Ground.guard }], guard := some (7, false) }) (v := undef) rfl (by kernel_rfl) (by kernel_rfl) (by kernel_rfl) (fun _ _ _ h => h) (Or.inr ⟨by rfl, rfl⟩) (by assumption) ?_
              try simp only [Act.put, List.setIfInBounds_toArray, List.set_cons_zero, List.set_cons_succ]
              refine wpAnyH_take (i := 9) (oi := { dst := some 74, op := Go.Op.load 22 (Go.Operand.tmp 73), type := 22, pos := "law.go:95", after := #[{ on := 8, ground := Go.Ground.data }, { on := 7, ground := Go.Ground.guard }], guard := some (7, false) }) (v := undef) rfl (by kernel_rfl) (by kernel_rfl) (by kernel_rfl) (fun _ _ _ h => h) (Or.inr ⟨by rfl, rfl⟩) (by assumption) ?_
              try simp only [Act.put, List.setIfInBounds_toArray, List.set_cons_zero, List.set_cons_succ]
              refine wpAnyH_take (i := 10) (oi := { dst := some 75, op := Go.Op.load 24 (Go.Operand.tmp 3), type := 24, pos := "law.go:95", after := #[{ on := 7, ground := Go.Ground.guard }], guard := some (7, false) }) (v := undef) rfl (by kernel_rfl) (by kernel_rfl) (by kernel_rfl) (fun _ _ _ h => h) (Or.inr ⟨by rfl, rfl⟩) (by assumption) ?_
              try simp only [Act.put, List.setIfInBounds_toArray, List.set_cons_zero, List.set_cons_succ]
              refine wpAnyH_take (i := 11) (oi := { dst := some 76, op := Go.Op.move (Go.Operand.tmp 7), type := 3, pos := "law.go:95", after := #[{ on := 7, ground := Go.Ground.guard }], guard := some (7, false) }) (v := undef) rfl (by kernel_rfl) (by kernel_rfl) (by kernel_rfl) (fun _ _ _ h => h) (Or.inr ⟨by rfl, rfl⟩) (by assumption) ?_
              try simp only [Act.put, List.setIfInBounds_toArray, List.set_cons_zero, List.set_cons_succ]
              refine wpAnyH_take (i := 12) (oi := { dst := some 77, op := Go.Op.call { callee := Go.Callee.value (Go.Operand.func 32), args := #[Go.Operand.tmp 75, Go.Operand.tmp 76], argTypes := #[24, 3] }, type := 3, pos := "law.go:95", after := #[{ on := 10, ground := Go.Ground.data }, { on := 11, ground := Go.Ground.data }, { on := 7, ground := Go.Ground.chain }, { on := 7, ground := Go.Ground.guard }], guard := some (7, false) }) (v := undef) rfl (by kernel_rfl) (by kernel_rfl) (by kernel_rfl) (fun _ _ _ h => h) (Or.inr ⟨by rfl, rfl⟩) (by assumption) ?_
              try simp only [Act.put, List.setIfInBounds_toArray, List.set_cons_zero, List.set_cons_succ]
              refine wpAnyH_take (i := 13) (oi := { dst := some 78, op := Go.Op.indexAddr 22 (Go.Operand.tmp 74) (Go.Operand.tmp 77), type := 0, pos := "law.go:95", after := #[{ on := 9, ground := Go.Ground.data }, { on := 12, ground := Go.Ground.data }, { on := 7, ground := Go.Ground.guard }], guard := some (7, false) }) (v := undef) rfl (by kernel_rfl) (by kernel_rfl) (by kernel_rfl) (fun _ _ _ h => h) (Or.inr ⟨by rfl, rfl⟩) (by assumption) ?_
              try simp only [Act.put, List.setIfInBounds_toArray, List.set_cons_zero, List.set_cons_succ]
              refine wpAnyH_take (i := 14) (oi := { dst := some 79, op := Go.Op.fieldAddr 46 (Go.Operand.tmp 78) 2, type := 0, pos := "law.go:95", after := #[{ on := 13, ground := Go.Ground.data }, { on := 7, ground := Go.Ground.guard }], guard := some (7, false) }) (v := undef) rfl (by kernel_rfl) (by kernel_rfl) (by kernel_rfl) (fun _ _ _ h => h) (Or.inr ⟨by rfl, rfl⟩) (by assumption) ?_
              try simp only [Act.put, List.setIfInBounds_toArray, List.set_cons_zero, List.set_cons_succ]
              refine wpAnyH_take (i := 15) (oi := { dst := some 80, op := Go.Op.load 44 (Go.Operand.tmp 79), type := 44, pos := "law.go:95", after := #[{ on := 14, ground := Go.Ground.data }, { on := 7, ground := Go.Ground.guard }], guard := some (7, false) }) (v := undef) rfl (by kernel_rfl) (by kernel_rfl) (by kernel_rfl) (fun _ _ _ h => h) (Or.inr ⟨by rfl, rfl⟩) (by assumption) ?_
              try simp only [Act.put, List.setIfInBounds_toArray, List.set_cons_zero, List.set_cons_succ]
              refine wpAnyH_take (i := 16) (oi := { dst := some 81, op := Go.Op.call { callee := Go.Callee.builtin Go.Builtin.len, args := #[Go.Operand.tmp 80], argTypes := #[44] }, type := 3, pos := "law.go:95", after := #[{ on := 15, ground := Go.Ground.data }, { on := 7, ground := Go.Ground.guard }], guard := some (7, false) }) (v := undef) rfl (by kernel_rfl) (by kernel_rfl) (by kernel_rfl) (fun _ _ _ h => h) (Or.inr ⟨by rfl, rfl⟩) (by assumption) ?_
              try simp only [Act.put, List.setIfInBounds_toArray, List.set_cons_zero, List.set_cons_succ]
              refine wpAnyH_take (i := 17) (oi := { dst := some 82, op := Go.Op.binOp Go.BinOp.gtr 3 (Go.Operand.tmp 81) (Go.Operand.const (Go.Value.int Go.IntKind.i64 60)) 3, type := 4, pos := "law.go:95", after := #[{ on := 16, ground := Go.Ground.data }, { on := 7, ground := Go.Ground.guard }], guard := some (7, false) }) (v := undef) rfl (by kernel_rfl) (by kernel_rfl) (by kernel_rfl) (fun _ _ _ h => h) (Or.inr ⟨by rfl, rfl⟩) (by assumption) ?_
              try simp only [Act.put, List.setIfInBounds_toArray, List.set_cons_zero, List.set_cons_succ]
              refine wpAnyH_take (i := 18) (oi := { dst := some 83, op := Go.Op.pick (Go.Operand.tmp 72) (Go.Operand.const (Go.Value.bool true)) (Go.Operand.tmp 82), type := 4, pos := "law.go:95", after := #[{ on := 7, ground := Go.Ground.data }, { on := 17, ground := Go.Ground.data }], guard := none }) (v := ?vv158) rfl (by kernel_rfl) (by kernel_rfl) (by kernel_rfl) (fun _ _ _ h => h) (Or.inl ⟨by rfl, ?hy158⟩) (by assumption) ?rr158
              case hy158 => intro w hSw; (try dsimp only at hSw); go_simp; all_goals with_reducible rfl
              try simp only [Act.put, List.setIfInBounds_toArray, List.set_cons_zero, List.set_cons_succ]
              refine wpAnyH_done (by kernel_rfl) ?_ _
              have hdr := (Below.refl w6.heap.size w6).drew
              go_wp2_with fail
              go_ret
              exact ⟨rfl, HB6.out.trans (hdr.mono HB6.out.size)⟩
            · have hd0B : (d == 0) = false := beq_eq_false_iff_ne.2 hd0
              have hd0D : decide (d = 0) = false := decide_eq_false hd0
              by_cases hdc : d = c
              · have hdcB : (d == c) = true := beq_iff_eq.2 hdc
                have hdcD : decide (d = c) = true := decide_eq_true hdc
                clear hdc hd0
                go_upto_region 4 with fail
                refine wp_region_held_drew (S := (fun w' => w'.cell? ⟨w.heap.size, 0, none⟩ = some (.slice (some ⟨b, off, none⟩) h.objs.length dA) ∧ w'.cell? ⟨w.heap.size, 1, none⟩ = some (.int .i64 h.cap) ∧ w'.cell? ⟨w.heap.size, 2, none⟩ = some (.int .i64 h.last))) (by kernel_rfl) ?_ (fun hH0 => ?_)
                · exact ⟨x0, x1, x2⟩
                refine wpAnyH_take (i := 0) (oi := { dst := some 65, op := Go.Op.move (Go.Operand.tmp 7), type := 3, pos := "law.go:95", after := #[], guard := none }) (v := ?vv159) rfl (by kernel_rfl) (by kernel_rfl) (by kernel_rfl) (fun _ _ _ h => h) (Or.inl ⟨by rfl, ?hy159⟩) (by assumption) ?rr159
                case hy159 => intro w hSw; (try dsimp only at hSw); go_simp; all_goals with_reducible rfl
                try simp only [Act.put, List.setIfInBounds_toArray, List.set_cons_zero, List.set_cons_succ]
                refine wpAnyH_take (i := 1) (oi := { dst := some 66, op := Go.Op.binOp Go.BinOp.eql 3 (Go.Operand.tmp 65) (Go.Operand.const (Go.Value.int Go.IntKind.i64 0)) 3, type := 4, pos := "law.go:95", after := #[{ on := 0, ground := Go.Ground.data }], guard := none }) (v := ?vv160) rfl (by kernel_rfl) (by kernel_rfl) (by kernel_rfl) (fun _ _ _ h => h) (Or.inl ⟨by rfl, ?hy160⟩) (by assumption) ?rr160
                case hy160 => intro w hSw; (try dsimp only at hSw); go_simp; all_goals with_reducible rfl
                try simp only [Act.put, List.setIfInBounds_toArray, List.set_cons_zero, List.set_cons_succ]
                refine wpAnyH_take (i := 2) (oi := { dst := some 67, op := Go.Op.move (Go.Operand.tmp 66), type := 4, pos := "law.go:95", after := #[{ on := 1, ground := Go.Ground.data }], guard := none }) (v := ?vv161) rfl (by kernel_rfl) (by kernel_rfl) (by kernel_rfl) (fun _ _ _ h => h) (Or.inl ⟨by rfl, ?hy161⟩) (by assumption) ?rr161
                case hy161 => intro w hSw; (try dsimp only at hSw); go_simp; all_goals with_reducible rfl
                try simp only [Act.put, List.setIfInBounds_toArray, List.set_cons_zero, List.set_cons_succ]
                refine wpAnyH_take (i := 3) (oi := { dst := some 68, op := Go.Op.move (Go.Operand.tmp 7), type := 3, pos := "law.go:95", after := #[{ on := 2, ground := Go.Ground.guard }], guard := some (2, false) }) (v := ?vv162) rfl (by kernel_rfl) (by kernel_rfl) (by kernel_rfl) (fun _ _ _ h => h) (Or.inl ⟨by rfl, ?hy162⟩) (by assumption) ?rr162
                case hy162 => intro w hSw; (try dsimp only at hSw); go_simp; all_goals with_reducible rfl
                try simp only [Act.put, List.setIfInBounds_toArray, List.set_cons_zero, List.set_cons_succ]
                refine wpAnyH_take (i := 4) (oi := { dst := some 69, op := Go.Op.move (Go.Operand.tmp 1), type := 3, pos := "law.go:95", after := #[{ on := 2, ground := Go.Ground.guard }], guard := some (2, false) }) (v := ?vv163) rfl (by kernel_rfl) (by kernel_rfl) (by kernel_rfl) (fun _ _ _ h => h) (Or.inl ⟨by rfl, ?hy163⟩) (by assumption) ?rr163
                case hy163 => intro w hSw; (try dsimp only at hSw); go_simp; all_goals with_reducible rfl
                try simp only [Act.put, List.setIfInBounds_toArray, List.set_cons_zero, List.set_cons_succ]
                refine wpAnyH_take (i := 5) (oi := { dst := some 70, op := Go.Op.binOp Go.BinOp.eql 3 (Go.Operand.tmp 68) (Go.Operand.tmp 69) 3, type := 4, pos := "law.go:95", after := #[{ on := 3, ground := Go.Ground.data }, { on := 4, ground := Go.Ground.data }, { on := 2, ground := Go.Ground.guard }], guard := some (2, false) }) (v := ?vv164) rfl (by kernel_rfl) (by kernel_rfl) (by kernel_rfl) (fun _ _ _ h => h) (Or.inl ⟨by rfl, ?hy164⟩) (by assumption) ?rr164
                case hy164 => intro w hSw; (try dsimp only at hSw); go_simp; all_goals with_reducible rfl
                try simp only [Act.put, List.setIfInBounds_toArray, List.set_cons_zero, List.set_cons_succ]
                refine wpAnyH_take (i := 6) (oi := { dst := some 71, op := Go.Op.pick (Go.Operand.tmp 67) (Go.Operand.const (Go.Value.bool true)) (Go.Operand.tmp 70), type := 4, pos := "law.go:95", after := #[{ on := 2, ground := Go.Ground.data }, { on := 5, ground := Go.Ground.data }], guard := none }) (v := ?vv165) rfl (by kernel_rfl) (by kernel_rfl) (by kernel_rfl) (fun _ _ _ h => h) (Or.inl ⟨by rfl, ?hy165⟩) (by assumption) ?rr165
                case hy165 => intro w hSw; (try dsimp only at hSw); go_simp; all_goals with_reducible rfl
                try simp only [Act.put, List.setIfInBounds_toArray, List.set_cons_zero, List.set_cons_succ]
                refine wpAnyH_take (i := 7) (oi := { dst := some 72, op := Go.Op.move (Go.Operand.tmp 71), type := 4, pos := "law.go:95", after := #[{ on := 6, ground := Go.Ground.data }, { on := 2, ground := Go.Ground.chain }], guard := none }) (v := ?vv166) rfl (by kernel_rfl) (by kernel_rfl) (by kernel_rfl) (fun _ _ _ h => h) (Or.inl ⟨by rfl, ?hy166⟩) (by assumption) ?rr166
                case hy166 => intro w hSw; (try dsimp only at hSw); go_simp; all_goals with_reducible rfl
                try simp only [Act.put, List.setIfInBounds_toArray, List.set_cons_zero, List.set_cons_succ]
                refine wpAnyH_take (i := 8) (oi := { dst := some 73, op := Go.Op.fieldAddr 24 (Go.Operand.tmp 3) 0, type := 0, pos := "law.go:95", after := #[{ on := 7, ground := Go.Ground.guard }], guard := some (7, false) }) (v := undef) rfl (by kernel_rfl) (by kernel_rfl) (by kernel_rfl) (fun _ _ _ h => h) (Or.inr ⟨by rfl, rfl⟩) (by assumption) ?_
                try simp only [Act.put, List.setIfInBounds_toArray, List.set_cons_zero, List.set_cons_succ]
                refine wpAnyH_take (i := 9) (oi := { dst := some 74, op := Go.Op.load 22 (Go.Operand.tmp 73), type := 22, pos := "law.go:95", after := #[{ on := 8, ground := Go.Ground.data }, { on := 7, ground := Go.Ground.guard }], guard := some (7, false) }) (v := undef) rfl (by kernel_rfl) (by kernel_rfl) (by kernel_rfl) (fun _ _ _ h => h) (Or.inr ⟨by rfl, rfl⟩) (by assumption) ?_
                try simp only [Act.put, List.setIfInBounds_toArray, List.set_cons_zero, List.set_cons_succ]
                refine wpAnyH_take (i := 10) (oi := { dst := some 75, op := Go.Op.load 24 (Go.Operand.tmp 3), type := 24, pos := "law.go:95", after := #[{ on := 7, ground := Go.Ground.guard }], guard := some (7, false) }) (v := undef) rfl (by kernel_rfl) (by kernel_rfl) (by kernel_rfl) (fun _ _ _ h => h) (Or.inr ⟨by rfl, rfl⟩) (by assumption) ?_
                try simp only [Act.put, List.setIfInBounds_toArray, List.set_cons_zero, List.set_cons_succ]
                refine wpAnyH_take (i := 11) (oi := { dst := some 76, op := Go.Op.move (Go.Operand.tmp 7), type := 3, pos := "law.go:95", after := #[{ on := 7, ground := Go.Ground.guard }], guard := some (7, false) }) (v := undef) rfl (by kernel_rfl) (by kernel_rfl) (by kernel_rfl) (fun _ _ _ h => h) (Or.inr ⟨by rfl, rfl⟩) (by assumption) ?_
                try simp only [Act.put, List.setIfInBounds_toArray, List.set_cons_zero, List.set_cons_succ]
                refine wpAnyH_take (i := 12) (oi := { dst := some 77, op := Go.Op.call { callee := Go.Callee.value (Go.Operand.func 32), args := #[Go.Operand.tmp 75, Go.Operand.tmp 76], argTypes := #[24, 3] }, type := 3, pos := "law.go:95", after := #[{ on := 10, ground := Go.Ground.data }, { on := 11, ground := Go.Ground.data }, { on := 7, ground := Go.Ground.chain }, { on := 7, ground := Go.Ground.guard }], guard := some (7, false) }) (v := undef) rfl (by kernel_rfl) (by kernel_rfl) (by kernel_rfl) (fun _ _ _ h => h) (Or.inr ⟨by rfl, rfl⟩) (by assumption) ?_
                try simp only [Act.put, List.setIfInBounds_toArray, List.set_cons_zero, List.set_cons_succ]
                refine wpAnyH_take (i := 13) (oi := { dst := some 78, op := Go.Op.indexAddr 22 (Go.Operand.tmp 74) (Go.Operand.tmp 77), type := 0, pos := "law.go:95", after := #[{ on := 9, ground := Go.Ground.data }, { on := 12, ground := Go.Ground.data }, { on := 7, ground := Go.Ground.guard }], guard := some (7, false) }) (v := undef) rfl (by kernel_rfl) (by kernel_rfl) (by kernel_rfl) (fun _ _ _ h => h) (Or.inr ⟨by rfl, rfl⟩) (by assumption) ?_
                try simp only [Act.put, List.setIfInBounds_toArray, List.set_cons_zero, List.set_cons_succ]
                refine wpAnyH_take (i := 14) (oi := { dst := some 79, op := Go.Op.fieldAddr 46 (Go.Operand.tmp 78) 2, type := 0, pos := "law.go:95", after := #[{ on := 13, ground := Go.Ground.data }, { on := 7, ground := Go.Ground.guard }], guard := some (7, false) }) (v := undef) rfl (by kernel_rfl) (by kernel_rfl) (by kernel_rfl) (fun _ _ _ h => h) (Or.inr ⟨by rfl, rfl⟩) (by assumption) ?_
                try simp only [Act.put, List.setIfInBounds_toArray, List.set_cons_zero, List.set_cons_succ]
                refine wpAnyH_take (i := 15) (oi := { dst := some 80, op := Go.Op.load 44 (Go.Operand.tmp 79), type := 44, pos := "law.go:95", after := #[{ on := 14, ground := Go.Ground.data }, { on := 7, ground := Go.Ground.guard }], guard := some (7, false) }) (v := undef) rfl (by kernel_rfl) (by kernel_rfl) (by kernel_rfl) (fun _ _ _ h => h) (Or.inr ⟨by rfl, rfl⟩) (by assumption) ?_
                try simp only [Act.put, List.setIfInBounds_toArray, List.set_cons_zero, List.set_cons_succ]
                refine wpAnyH_take (i := 16) (oi := { dst := some 81, op := Go.Op.call { callee := Go.Callee.builtin Go.Builtin.len, args := #[Go.Operand.tmp 80], argTypes := #[44] }, type := 3, pos := "law.go:95", after := #[{ on := 15, ground := Go.Ground.data }, { on := 7, ground := Go.Ground.guard }], guard := some (7, false) }) (v := undef) rfl (by kernel_rfl) (by kernel_rfl) (by kernel_rfl) (fun _ _ _ h => h) (Or.inr ⟨by rfl, rfl⟩) (by assumption) ?_
                try simp only [Act.put, List.setIfInBounds_toArray, List.set_cons_zero, List.set_cons_succ]
                refine wpAnyH_take (i := 17) (oi := { dst := some 82, op := Go.Op.binOp Go.BinOp.gtr 3 (Go.Operand.tmp 81) (Go.Operand.const (Go.Value.int Go.IntKind.i64 60)) 3, type := 4, pos := "law.go:95", after := #[{ on := 16, ground := Go.Ground.data }, { on := 7, ground := Go.Ground.guard }], guard := some (7, false) }) (v := undef) rfl (by kernel_rfl) (by kernel_rfl) (by kernel_rfl) (fun _ _ _ h => h) (Or.inr ⟨by rfl, rfl⟩) (by assumption) ?_
                try simp only [Act.put, List.setIfInBounds_toArray, List.set_cons_zero, List.set_cons_succ]
                refine wpAnyH_take (i := 18) (oi := { dst := some 83, op := Go.Op.pick (Go.Operand.tmp 72) (Go.Operand.const (Go.Value.bool true)) (Go.Operand.tmp 82), type := 4, pos := "law.go:95", after := #[{ on := 7, ground := Go.Ground.data }, { on := 17, ground := Go.Ground.data }], guard := none }) (v := ?vv177) rfl (by kernel_rfl) (by kernel_rfl) (by kernel_rfl) (fun _ _ _ h => h) (Or.inl ⟨by rfl, ?hy177⟩) (by assumption) ?rr177
                case hy177 => intro w hSw; (try dsimp only at hSw); go_simp; all_goals with_reducible rfl
                try simp only [Act.put, List.setIfInBounds_toArray, List.set_cons_zero, List.set_cons_succ]
                refine wpAnyH_done (by kernel_rfl) ?_ _
                have hdr := (Below.refl w6.heap.size w6).drew
                go_wp2_with fail
                go_ret
                exact ⟨rfl, HB6.out.trans (hdr.mono HB6.out.size)⟩
              · have hdcB : (d == c) = false := beq_eq_false_iff_ne.2 hdc
                have hdcD : decide (d = c) = false := decide_eq_false hdc
                obtain ⟨hrd, -, hpl⟩ := pa9_is HPD.out
                have hkD := (pa9_ref HPD.out hd0).2
                obtain ⟨i1, b1, off1, S1, d1, hi1, hil1, e1, hc1, hint1, hcap1⟩ := ob_read9 HSO.out (Below.refl _ _) hrd
                cases e1
                have HRD := hid hrd
                have HKD := hid hkD
                have HD0 := hid hd0
                obtain ⟨L, hL⟩ : ∃ L, L = (obAt h d).slots := ⟨_, rfl⟩
                have hl64 := slots64_9 HM.out hrd
                rw [← hL] at hint1 hl64
                have HLL := hid hL
                have HL64 := hid hl64
                have hlI1 : (i1 : Int) < (h.objs.length : Int) := by omega
                have D2 : Hid (w.cell? ⟨b, off + i1 * 6 + 2, none⟩ = some (.slice S1 L.length d1)) := by show _ = _; rw [hL]; exact hc1.c2
                have t2 := cell_later HB6.out D2.out
                clear hrd hpl hkD hc1 hint1 hcap1 hL hl64
                go_upto_region 4 with fail
                refine wp_region_held_drew (S := (fun w' => w'.cell? ⟨w.heap.size, 0, none⟩ = some (.slice (some ⟨b, off, none⟩) h.objs.length dA) ∧ w'.cell? ⟨w.heap.size, 1, none⟩ = some (.int .i64 h.cap) ∧ w'.cell? ⟨w.heap.size, 2, none⟩ = some (.int .i64 h.last) ∧ w'.cell? ⟨b, off + i1 * 6 + 2, none⟩ = some (.slice S1 L.length d1))) (by kernel_rfl) ?_ (fun hH0 => ?_)
                · exact ⟨x0, x1, x2, t2⟩
                refine wpAnyH_take (i := 0) (oi := { dst := some 65, op := Go.Op.move (Go.Operand.tmp 7), type := 3, pos := "law.go:95", after := #[], guard := none }) (v := ?vv178) rfl (by kernel_rfl) (by kernel_rfl) (by kernel_rfl) (fun _ _ _ h => h) (Or.inl ⟨by rfl, ?hy178⟩) (by assumption) ?rr178
                case hy178 => intro w hSw; (try dsimp only at hSw); go_simp; all_goals with_reducible rfl
                try simp only [Act.put, List.setIfInBounds_toArray, List.set_cons_zero, List.set_cons_succ]
                refine wpAnyH_take (i := 1) (oi := { dst := some 66, op := Go.Op.binOp Go.BinOp.eql 3 (Go.Operand.tmp 65) (Go.Operand.const (Go.Value.int Go.IntKind.i64 0)) 3, type := 4, pos := "law.go:95", after := #[{ on := 0, ground := Go.Ground.data }], guard := none }) (v := ?vv179) rfl (by kernel_rfl) (by kernel_rfl) (by kernel_rfl) (fun _ _ _ h => h) (Or.inl ⟨by rfl, ?hy179⟩) (by assumption) ?rr179
                case hy179 => intro w hSw; (try dsimp only at hSw); go_simp; all_goals with_reducible rfl
                try simp only [Act.put, List.setIfInBounds_toArray, List.set_cons_zero, List.set_cons_succ]
                refine wpAnyH_take (i := 2) (oi := { dst := some 67, op := Go.Op.move (Go.Operand.tmp 66), type := 4, pos := "law.go:95", after := #[{ on := 1, ground := Go.Ground.data }], guard := none }) (v := ?vv180) rfl (by kernel_rfl) (by kernel_rfl) (by kernel_rfl) (fun _ _ _ h => h) (Or.inl ⟨by rfl, ?hy180⟩) (by assumption) ?rr180
                case hy180 => intro w hSw; (try dsimp only at hSw); go_simp; all_goals with_reducible rfl
                try simp only [Act.put, List.setIfInBounds_toArray, List.set_cons_zero, List.set_cons_succ]
                refine wpAnyH_take (i := 3) (oi := { dst := some 68, op := Go.Op.move (Go.Operand.tmp 7), type := 3, pos := "law.go:95", after := #[{ on := 2, ground := Go.Ground.guard }], guard := some (2, false) }) (v := ?vv181) rfl (by kernel_rfl) (by kernel_rfl) (by kernel_rfl) (fun _ _ _ h => h) (Or.inl ⟨by rfl, ?hy181⟩) (by assumption) ?rr181
                case hy181 => intro w hSw; (try dsimp only at hSw); go_simp; all_goals with_reducible rfl
                try simp only [Act.put, List.setIfInBounds_toArray, List.set_cons_zero, List.set_cons_succ]
                refine wpAnyH_take (i := 4) (oi := { dst := some 69, op := Go.Op.move (Go.Operand.tmp 1), type := 3, pos := "law.go:95", after := #[{ on := 2, ground := Go.Ground.guard }], guard := some (2, false) }) (v := ?vv182) rfl (by kernel_rfl) (by kernel_rfl) (by kernel_rfl) (fun _ _ _ h => h) (Or.inl ⟨by rfl, ?hy182⟩) (by assumption) ?rr182
                case hy182 => intro w hSw; (try dsimp only at hSw); go_simp; all_goals with_reducible rfl
                try simp only [Act.put, List.setIfInBounds_toArray, List.set_cons_zero, List.set_cons_succ]
                refine wpAnyH_take (i := 5) (oi := { dst := some 70, op := Go.Op.binOp Go.BinOp.eql 3 (Go.Operand.tmp 68) (Go.Operand.tmp 69) 3, type := 4, pos := "law.go:95", after := #[{ on := 3, ground := Go.Ground.data }, { on := 4, ground := Go.Ground.data }, { on := 2, ground := Go.Ground.guard }], guard := some (2, false) }) (v := ?vv183) rfl (by kernel_rfl) (by kernel_rfl) (by kernel_rfl) (fun _ _ _ h => h) (Or.inl ⟨by rfl, ?hy183⟩) (by assumption) ?rr183
                case hy183 => intro w hSw; (try dsimp only at hSw); go_simp; all_goals with_reducible rfl
                try simp only [Act.put, List.setIfInBounds_toArray, List.set_cons_zero, List.set_cons_succ]
                refine wpAnyH_take (i := 6) (oi := { dst := some 71, op := Go.Op.pick (Go.Operand.tmp 67) (Go.Operand.const (Go.Value.bool true)) (Go.Operand.tmp 70), type := 4, pos := "law.go:95", after := #[{ on := 2, ground := Go.Ground.data }, { on := 5, ground := Go.Ground.data }], guard := none }) (v := ?vv184) rfl (by kernel_rfl) (by kernel_rfl) (by kernel_rfl) (fun _ _ _ h => h) (Or.inl ⟨by rfl, ?hy184⟩) (by assumption) ?rr184
                case hy184 => intro w hSw; (try dsimp only at hSw); go_simp; all_goals with_reducible rfl
                try simp only [Act.put, List.setIfInBounds_toArray, List.set_cons_zero, List.set_cons_succ]
                refine wpAnyH_take (i := 7) (oi := { dst := some 72, op := Go.Op.move (Go.Operand.tmp 71), type := 4, pos := "law.go:95", after := #[{ on := 6, ground := Go.Ground.data }, { on := 2, ground := Go.Ground.chain }], guard := none }) (v := ?vv185) rfl (by kernel_rfl) (by kernel_rfl) (by kernel_rfl) (fun _ _ _ h => h) (Or.inl ⟨by rfl, ?hy185⟩) (by assumption) ?rr185
                case hy185 => intro w hSw; (try dsimp only at hSw); go_simp; all_goals with_reducible rfl
                try simp only [Act.put, List.setIfInBounds_toArray, List.set_cons_zero, List.set_cons_succ]
                refine wpAnyH_take (i := 8) (oi := { dst := some 73, op := Go.Op.fieldAddr 24 (Go.Operand.tmp 3) 0, type := 0, pos := "law.go:95", after := #[{ on := 7, ground := Go.Ground.guard }], guard := some (7, false) }) (v := ?vv186) rfl (by kernel_rfl) (by kernel_rfl) (by kernel_rfl) (fun _ _ _ h => h) (Or.inl ⟨by rfl, ?hy186⟩) (by assumption) ?rr186
                case hy186 => intro w hSw; (try dsimp only at hSw); go_simp; all_goals with_reducible rfl
                try simp only [Act.put, List.setIfInBounds_toArray, List.set_cons_zero, List.set_cons_succ]
                refine wpAnyH_take (i := 9) (oi := { dst := some 74, op := Go.Op.load 22 (Go.Operand.tmp 73), type := 22, pos := "law.go:95", after := #[{ on := 8, ground := Go.Ground.data }, { on := 7, ground := Go.Ground.guard }], guard := some (7, false) }) (v := ?vv187) rfl (by kernel_rfl) (by kernel_rfl) (by kernel_rfl) (fun _ _ _ h => h) (Or.inl ⟨by rfl, ?hy187⟩) (by assumption) ?rr187
                case hy187 => intro w hSw; (try dsimp only at hSw); go_simp; all_goals with_reducible rfl
                try simp only [Act.put, List.setIfInBounds_toArray, List.set_cons_zero, List.set_cons_succ]
                refine wpAnyH_take (i := 10) (oi := { dst := some 75, op := Go.Op.load 24 (Go.Operand.tmp 3), type := 24, pos := "law.go:95", after := #[{ on := 7, ground := Go.Ground.guard }], guard := some (7, false) }) (v := ?vv188) rfl (by kernel_rfl) (by kernel_rfl) (by kernel_rfl) (fun _ _ _ h => h) (Or.inl ⟨by rfl, ?hy188⟩) (by assumption) ?rr188
                case hy188 => intro w hSw; (try dsimp only at hSw); go_simp; all_goals with_reducible rfl
                try simp only [Act.put, List.setIfInBounds_toArray, List.set_cons_zero, List.set_cons_succ]
                refine wpAnyH_take (i := 11) (oi := { dst := some 76, op := Go.Op.move (Go.Operand.tmp 7), type := 3, pos := "law.go:95", after := #[{ on := 7, ground := Go.Ground.guard }], guard := some (7, false) }) (v := ?vv189) rfl (by kernel_rfl) (by kernel_rfl) (by kernel_rfl) (fun _ _ _ h => h) (Or.inl ⟨by rfl, ?hy189⟩) (by assumption) ?rr189
                case hy189 => intro w hSw; (try dsimp only at hSw); go_simp; all_goals with_reducible rfl
                try simp only [Act.put, List.setIfInBounds_toArray, List.set_cons_zero, List.set_cons_succ]
                refine wpAnyH_ready (rs := [12]) (by kernel_rfl) (by simp) ?_
                refine AllReadyH.cons (i := 12) (o := { dst := some 77, op := Go.Op.call { callee := Go.Callee.value (Go.Operand.func 32), args := #[Go.Operand.tmp 75, Go.Operand.tmp 76], argTypes := #[24, 3] }, type := 3, pos := "law.go:95", after := #[{ on := 10, ground := Go.Ground.data }, { on := 11, ground := Go.Ground.data }, { on := 7, ground := Go.Ground.chain }, { on := 7, ground := Go.Ground.guard }], guard := some (7, false) }) rfl (fun K hK => ?_) AllReadyH.nil
                go_simp
                go_at_call 32
                refine (rref_any h d (some ⟨b, off, none⟩) dA _).mono ?_
                rintro e u1 ⟨rfl, hb⟩
                rw [hi1]
                have HV1 := hid (then_w (Below.refl w6.heap.size w6).drew hb)
                refine hK.out _ _ ?_ (fun hH1 => ?_)
                · exact ⟨cell_later hb hH0.1, cell_later hb hH0.2.1, cell_later hb hH0.2.2.1, cell_later hb hH0.2.2.2⟩
                clear hK K
                try simp only [Act.put, List.setIfInBounds_toArray, List.set_cons_zero, List.set_cons_succ]
                clear hb
                refine wpAnyH_take (i := 13) (oi := { dst := some 78, op := Go.Op.indexAddr 22 (Go.Operand.tmp 74) (Go.Operand.tmp 77), type := 0, pos := "law.go:95", after := #[{ on := 9, ground := Go.Ground.data }, { on := 12, ground := Go.Ground.data }, { on := 7, ground := Go.Ground.guard }], guard := some (7, false) }) (v := ?vv190) rfl (by kernel_rfl) (by kernel_rfl) (by kernel_rfl) (fun _ _ _ h => h) (Or.inl ⟨by rfl, ?hy190⟩) (by assumption) ?rr190
                case hy190 => intro w hSw; (try dsimp only at hSw); go_simp; all_goals with_reducible rfl
                try simp only [Act.put, List.setIfInBounds_toArray, List.set_cons_zero, List.set_cons_succ]
                refine wpAnyH_take (i := 14) (oi := { dst := some 79, op := Go.Op.fieldAddr 46 (Go.Operand.tmp 78) 2, type := 0, pos := "law.go:95", after := #[{ on := 13, ground := Go.Ground.data }, { on := 7, ground := Go.Ground.guard }], guard := some (7, false) }) (v := ?vv191) rfl (by kernel_rfl) (by kernel_rfl) (by kernel_rfl) (fun _ _ _ h => h) (Or.inl ⟨by rfl, ?hy191⟩) (by assumption) ?rr191
                case hy191 => intro w hSw; (try dsimp only at hSw); go_simp; all_goals with_reducible rfl
                try simp only [Act.put, List.setIfInBounds_toArray, List.set_cons_zero, List.set_cons_succ]
                refine wpAnyH_take (i := 15) (oi := { dst := some 80, op := Go.Op.load 44 (Go.Operand.tmp 79), type := 44, pos := "law.go:95", after := #[{ on := 14, ground := Go.Ground.data }, { on := 7, ground := Go.Ground.guard }], guard := some (7, false) }) (v := ?vv192) rfl (by kernel_rfl) (by kernel_rfl) (by kernel_rfl) (fun _ _ _ h => h) (Or.inl ⟨by rfl, ?hy192⟩) (by assumption) ?rr192
                case hy192 => intro w hSw; (try dsimp only at hSw); go_simp; all_goals with_reducible rfl
                try simp only [Act.put, List.setIfInBounds_toArray, List.set_cons_zero, List.set_cons_succ]
                refine wpAnyH_take (i := 16) (oi := { dst := some 81, op := Go.Op.call { callee := Go.Callee.builtin Go.Builtin.len, args := #[Go.Operand.tmp 80], argTypes := #[44] }, type := 3, pos := "law.go:95", after := #[{ on := 15, ground := Go.Ground.data }, { on := 7, ground := Go.Ground.guard }], guard := some (7, false) }) (v := ?vv193) rfl (by kernel_rfl) (by kernel_rfl) (by kernel_rfl) (fun _ _ _ h => h) (Or.inl ⟨by rfl, ?hy193⟩) (by assumption) ?rr193
                case hy193 => intro w hSw; (try dsimp only at hSw); go_simp; all_goals with_reducible rfl
                try simp only [Act.put, List.setIfInBounds_toArray, List.set_cons_zero, List.set_cons_succ]
                refine wpAnyH_take (i := 17) (oi := { dst := some 82, op := Go.Op.binOp Go.BinOp.gtr 3 (Go.Operand.tmp 81) (Go.Operand.const (Go.Value.int Go.IntKind.i64 60)) 3, type := 4, pos := "law.go:95", after := #[{ on := 16, ground := Go.Ground.data }, { on := 7, ground := Go.Ground.guard }], guard := some (7, false) }) (v := ?vv194) rfl (by kernel_rfl) (by kernel_rfl) (by kernel_rfl) (fun _ _ _ h => h) (Or.inl ⟨by rfl, ?hy194⟩) (by assumption) ?rr194
                case hy194 => intro w hSw; (try dsimp only at hSw); go_simp; all_goals with_reducible rfl
                try simp only [Act.put, List.setIfInBounds_toArray, List.set_cons_zero, List.set_cons_succ]
                refine wpAnyH_take (i := 18) (oi := { dst := some 83, op := Go.Op.pick (Go.Operand.tmp 72) (Go.Operand.const (Go.Value.bool true)) (Go.Operand.tmp 82), type := 4, pos := "law.go:95", after := #[{ on := 7, ground := Go.Ground.data }, { on := 17, ground := Go.Ground.data }], guard := none }) (v := ?vv195) rfl (by kernel_rfl) (by kernel_rfl) (by kernel_rfl) (fun _ _ _ h => h) (Or.inl ⟨by rfl, ?hy195⟩) (by assumption) ?rr195
                case hy195 => intro w hSw; (try dsimp only at hSw); go_simp; all_goals with_reducible rfl
                try simp only [Act.put, List.setIfInBounds_toArray, List.set_cons_zero, List.set_cons_succ]
                refine wpAnyH_done (by kernel_rfl) ?_ _
                obtain ⟨w7, hw⟩ : ∃ u, u = u1 := ⟨_, rfl⟩
                have hb := HV1.out
                rw [← hw] at hb ⊢
                have HB7 := hid (HB6.out.trans (hb.mono HB6.out.size))
                have X7 := hid (X6.out.later hb)
                have V7 := hid (V6.out.later hb)
                have O7 := hid (O6.out.below hb)
                clear hb hw HV1 hH0 hH1 x0 x1 x2 v0 v1 v2 t2
                have x0 := X7.out.cell 0
                have x1 := X7.out.cell 1
                have x2 := X7.out.cell 2
                have v0 := V7.out.cell 0
                have v1 := V7.out.cell 1
                have v2 := V7.out.cell 2
                simp only [List.getElem?_toArray, List.getElem?_cons_zero, List.getElem?_cons_succ] at x0 x1 x2 v0 v1 v2
                by_cases h60 : 60 < L.length
                · have h60I : (60 : Int) < (L.length : Int) := by omega
                  go_wp2_with fail
                  go_ret
                  exact ⟨rfl, HB7.out⟩
                · have h60I : ¬ (60 : Int) < (L.length : Int) := by omega
                  have H60 : Hid (L.length ≤ 60) := by show _ ≤ _; omega
                  go_wp2_with fail
                  clear x0 x1 x2 v0 v1 v2
                  clear h60I
                  go_loopw [8] (fun e wr => ∃ k : Nat, 1 ≤ k ∧ k ≤ h.objs.length + 1 ∧ e = .int .i64 k ∧ Hid (∀ j : Nat, 1 ≤ j → j < k → j < h.objs.length → clB9 h (2 * (j : Int)) = true → (2 * (j : Int) = c ∨ sl9 h (2 * (j : Int)) 1 ≠ d) ∧ 2 * (j : Int) ≠ d) ∧ Below w.heap.size w wr ∧ Lies wr w.heap.size 24 #[Value.slice (some ⟨b, off, none⟩) h.objs.length dA, Value.int .i64 h.cap, Value.int .i64 h.last] ∧ Lies wr (w.heap.size + 1) 50 #[.int .i64 p0, .int .i64 p1, .int .i64 p2]) (fun e _ => h.objs.length + 2 - (intOf e).toNat)
                  case atStart => exact ⟨1, by omega, by omega, rfl, hid (fun j h1 h2 => by omega), HB7.out, X7.out, V7.out⟩
                  case round =>
                    obtain ⟨k, hk1, hk2, rfl, HALL, hbw, hx, hv⟩ := hrel
                    have HW := hid hbw
                    have HX := hid hx
                    have HV := hid hv
                    clear hbw hx hv
                    have x0 := HX.out.cell 0
                    have x1 := HX.out.cell 1
                    have x2 := HX.out.cell 2
                    simp only [List.getElem?_toArray, List.getElem?_cons_zero, List.getElem?_cons_succ] at x0 x1 x2
                    by_cases hlt : k < h.objs.length
                    · have hltI : (k : Int) < (h.objs.length : Int) := by omega
                      have hk0 : (0 : Int) ≤ (k : Int) := by omega
                      have hkw : IntKind.i64.wrap ((k : Int) + 1) = (k : Int) + 1 := IntWalk.i64_in _ ⟨by omega, by omega⟩
                      have hk2w : IntKind.i64.wrap (2 * (k : Int)) = 2 * (k : Int) := IntWalk.i64_in _ ⟨by omega, by omega⟩
                      obtain ⟨bo, oo, eo, hbo, hco⟩ := HSO.out (by omega)
                      cases eo
                      obtain ⟨ok, hok⟩ : ∃ o, o = h.objs[k]'hlt := ⟨_, rfl⟩
                      obtain ⟨Sk, dk, hck, hik, -, -⟩ := hco k ok (by rw [hok]; exact List.getElem?_eq_getElem hlt)
                      have t2 := cell_later HW.out hck.c2
                      have HIK := hid hik
                      obtain ⟨e, he⟩ : ∃ e : Int, e = 2 * (k : Int) := ⟨_, rfl⟩
                      have HEE := hid he
                      have hek : refB h.objs.length e = true → obAt h e = ok := fun hr => by
                        obtain ⟨q, q1, q2, q3⟩ := obAt_get hr
                        have q4 := ref_is9 hr
                        obtain rfl : q = k := by omega
                        rw [List.getElem?_eq_getElem hlt] at q3
                        rw [hok]; exact (Option.some.inj q3).symm
                      have HEK := hid hek
                      rw [← he] at hk2w
                      clear hco hck hik hok hek
                      go_wp2_with fail
                      rw [← HEE.out]
                      refine (rclass_any9 h e (some ⟨b, off, none⟩) dA _ (HSO.out.below HW.out) HF.out).mono ?_
                      rintro e_ w9 ⟨rfl, hb⟩
                      have HW9 := hid (HW.out.trans (hb.mono HW.out.size))
                      have HX9 := hid (HX.out.later hb)
                      have HV9 := hid (HV.out.later hb)
                      clear hb x0 x1 x2 t2
                      cases hce : clB9 h e
                      · have HNX : Hid (∀ j : Nat, 1 ≤ j → j < k + 1 → j < h.objs.length → clB9 h (2 * (j : Int)) = true → (2 * (j : Int) = c ∨ sl9 h (2 * (j : Int)) 1 ≠ d) ∧ 2 * (j : Int) ≠ d) := fun j j1 j2 j3 j4 => by
                          by_cases hj : j = k
                          · subst hj; rw [← HEE.out, hce] at j4; cases j4
                          · exact HALL.out j j1 (by omega) j3 j4
                        clear hce
                        go_wp2_with fail
                        go_roundw
                        case rel => exact ⟨k + 1, by omega, by omega, by go_num, HNX, HW9.out, HX9.out, HV9.out⟩
                        case measure => simp only [intOf]; omega
                      · obtain ⟨hre, -, hle3, -, -⟩ := cl9_parts hce
                        have hoe := HEK.out hre
                        rw [hoe] at hle3
                        obtain ⟨bk, ok_, rfl, hbk, hck⟩ := HIK.out (by omega)
                        have f1 : ok.slots[1]? = some (sl9 h e 1) := by rw [← hoe]; exact sl_at9 (by rw [hoe]; omega)
                        have s1 := cell_later HW9.out (hck 1 _ f1)
                        obtain ⟨u1, hu1⟩ : ∃ u, u = sl9 h e 1 := ⟨_, rfl⟩
                        have HU1 := hid hu1
                        rw [← hu1] at s1
                        obtain ⟨nk, hnk⟩ : ∃ n, n = ok.slots.length := ⟨_, rfl⟩
                        have kk1 : 1 < nk := by omega
                        have gg1 : (1 : Int) < (nk : Int) := by omega
                        rw [← hnk]
                        have HCE := hid hce
                        clear hre hle3 hoe hck f1 hu1 hnk hce
                        by_cases t1 : (e ≠ c ∧ u1 = d) ∨ e = d
                        · by_cases ec : e = c
                          · have ecB : (e == c) = true := beq_iff_eq.2 ec
                            have ed : e = d := by rcases t1 with t1 | t1; exact absurd ec t1.1; exact t1
                            exact absurd (ed.symm.trans ec) hdc
                          · have ecB : (e == c) = false := beq_eq_false_iff_ne.2 ec
                            by_cases ud : u1 = d
                            · have udB : (u1 == d) = true := beq_iff_eq.2 ud
                              go_wp2_with fail
                              go_ret
                              exact ⟨by first | rfl | simp, HW9.out⟩
                            · have udB : (u1 == d) = false := beq_eq_false_iff_ne.2 ud
                              have ed : e = d := by rcases t1 with t1 | t1; exact absurd t1.2 ud; exact t1
                              have edB : (e == d) = true := beq_iff_eq.2 ed
                              go_wp2_with fail
                              go_ret
                              exact ⟨by first | rfl | simp, HW9.out⟩
                        · obtain ⟨ed, hec⟩ : e ≠ d ∧ (e = c ∨ u1 ≠ d) := by
                            refine ⟨fun f => t1 (.inr f), ?_⟩
                            by_cases ec : e = c
                            · exact .inl ec
                            · exact .inr fun f => t1 (.inl ⟨ec, f⟩)
                          have edB : (e == d) = false := beq_eq_false_iff_ne.2 ed
                          have HNX : Hid (∀ j : Nat, 1 ≤ j → j < k + 1 → j < h.objs.length → clB9 h (2 * (j : Int)) = true → (2 * (j : Int) = c ∨ sl9 h (2 * (j : Int)) 1 ≠ d) ∧ 2 * (j : Int) ≠ d) := fun j j1 j2 j3 j4 => by
                            by_cases hj : j = k
                            · subst hj
                              rw [← HEE.out, ← HU1.out]
                              exact ⟨hec, ed⟩
                            · exact HALL.out j j1 (by omega) j3 j4
                          by_cases ec : e = c
                          · have ecB : (e == c) = true := beq_iff_eq.2 ec
                            clear hec t1
                            go_wp2_with fail
                            go_roundw
                            case rel => exact ⟨k + 1, by omega, by omega, by go_num, HNX, HW9.out, HX9.out, HV9.out⟩
                            case measure => simp only [intOf]; omega
                          · have ecB : (e == c) = false := beq_eq_false_iff_ne.2 ec
                            have ud : u1 ≠ d := by rcases hec with f | f; exact absurd f ec; exact f
                            have udB : (u1 == d) = false := beq_eq_false_iff_ne.2 ud
                            clear hec t1
                            go_wp2_with fail
                            go_roundw
                            case rel => exact ⟨k + 1, by omega, by omega, by go_num, HNX, HW9.out, HX9.out, HV9.out⟩
                            case measure => simp only [intOf]; omega
                    · have hltI : ¬ (k : Int) < (h.objs.length : Int) := by omega
                      have hkw : IntKind.i64.wrap ((k : Int) + 1) = (k : Int) + 1 := IntWalk.i64_in _ ⟨by omega, by omega⟩
                      have ALONE : Hid (∀ e, clB9 h e = true → e ≠ 0 → (e = c ∨ sl9 h e 1 ≠ d) ∧ e ≠ d) := fun e he h0 => by
                        have q1 := ref_is9 (cl9_ref he)
                        have q2 := refB_no (cl9_ref he)
                        have q3 := HALL.out (atV e).toNat (by omega) (by omega) (by omega)
                        rw [show 2 * (((atV e).toNat : Nat) : Int) = e by omega] at q3
                        exact q3 he
                      have NH : Hid (clB9 h d = false) := by
                        show _ = _
                        cases q : clB9 h d with
                        | false => rfl
                        | true => exact absurd rfl (ALONE.out d q HD0.out).2
                      have HGM : Hid (mayB (ly9 h d p0 p1) = true) := may_ly9 HM.out HRD.out HKD.out (by rw [← HLL.out]; exact H60.out) HH0.out HH1.out
                      clear HALL hlt hkw
                      go_wp2_with fail
                      refine (copy_h h (some ⟨b, off, none⟩) dA _ (HSO.out.below HW.out) HM.out).mono ?_
                      rintro e_ w9 ⟨A9, c9, ls, rfl, hls, hown, hb⟩
                      have hal := below_alloc w9 (.cells #[Value.slice A9 h.objs.length c9, Value.int .i64 h.cap, Value.int .i64 h.last] 24)
                      have HW9 := hid ((HW.out.trans (hb.mono HW.out.size)).trans (hal.mono (Nat.le_trans HW.out.size hb.size)))
                      have HX9 := hid ((HX.out.later hb).later hal)
                      have HV9 := hid ((HV.out.later hb).later hal)
                      have HO9 := hid (hown.later hal)
                      have HG9 := hid (Lies.new w9 24 #[Value.slice A9 h.objs.length c9, Value.int .i64 h.cap, Value.int .i64 h.last])
                      have hll : ls.length = h.objs.length := by rw [← hls, List.length_map]
                      obtain ⟨g, cg, hvv, hg0, hg1⟩ := hown.row.form (by omega)
                      simp only [Value.slice.injEq] at hvv
                      obtain ⟨rfl, -, -⟩ := hvv
                      obtain ⟨l, hl⟩ : ∃ l, ls[i1]? = some l := ⟨_, List.getElem?_eq_getElem (by omega)⟩
                      have hlo : l.o = obAt h d := by
                        obtain ⟨q, q1, q2, q3⟩ := obAt_get HRD.out
                        have q4 : q = i1 := by have := refI_nonneg HRD.out; omega
                        subst q4
                        have e1 : (ls.map (·.o))[q]? = some l.o := by rw [List.getElem?_map, hl]; rfl
                        rw [hls, q3] at e1
                        exact (Option.some.inj e1).symm
                      have HLS := hid hls
                      have HL := hid hl
                      have HLO := hid hlo
                      have HLN := hid hll
                      obtain ⟨wg, hwg⟩ : ∃ u, u = w9.heap.size := ⟨_, rfl⟩
                      obtain ⟨v9, hv9⟩ : ∃ u, u = w9.alloc (.cells #[Value.slice (some ⟨g, 0, none⟩) h.objs.length c9, Value.int .i64 h.cap, Value.int .i64 h.last] 24) := ⟨_, rfl⟩
                      rw [← hv9] at HW9 HX9 HV9 HO9 HG9
                      rw [← hwg] at HG9
                      clear hb hal hown hls hl hlo hll hg1 x0 x1 x2
                      go_upto_region 13 with fail
                      rw [← hv9, ← hwg]
                      clear hv9 hwg
                      have x0 := HX9.out.cell 0
                      have x1 := HX9.out.cell 1
                      have x2 := HX9.out.cell 2
                      simp only [List.getElem?_toArray, List.getElem?_cons_zero, List.getElem?_cons_succ] at x0 x1 x2
                      go_wp2_with fail
                      refine (rref_any h d (some ⟨b, off, none⟩) dA _).mono ?_
                      rintro e_ wa ⟨rfl, hb⟩
                      rw [hi1]
                      have HWA := hid (HW9.out.trans (hb.mono HW9.out.size))
                      have HXA := hid (HX9.out.later hb)
                      have HVA := hid (HV9.out.later hb)
                      have HOA := hid (HO9.out.later hb)
                      have HGA := hid (HG9.out.later hb)
                      clear hb x0 x1 x2
                      have y0 := HGA.out.cell 0
                      have v0 := HVA.out.cell 0
                      have v1 := HVA.out.cell 1
                      simp only [List.getElem?_toArray, List.getElem?_cons_zero, List.getElem?_cons_succ] at y0 v0 v1
                      have r2 := (HOA.out.row.cellAt (i1 * 6 + 2) (by have := HLN.out; omega)).trans (rowOf_get ls i1 2 _ HL.out (by omega))
                      simp only [LO.cells, List.getElem?_cons_zero, List.getElem?_cons_succ] at r2
                      obtain ⟨cur, hB, -, -, hgb⟩ := own_blk HOA.out.row
                      have NE1 : wg ≠ g := lies_ne HGA.out hB (by decide)
                      have NE2 : w.heap.size + 1 ≠ g := lies_ne HVA.out hB (by decide)
                      have NE3 : w.heap.size ≠ g := lies_ne HXA.out hB (by decide)
                      have HGB0 : Hid (w.heap.size ≤ g) := hid (Nat.le_trans HW.out.size hgb)
                      have LT1 : wg < wa.heap.size := HGA.out.lt
                      have LT2 : w.heap.size + 1 < wa.heap.size := HVA.out.lt
                      have hi1n : (i1 : Int) < (h.objs.length : Int) := hlI1
                      clear hB hgb
                      go_upto_region 14 with fail
                      go_cut [125] from 126 to 141 (fun _ wx => ObsR wx (some ⟨g, 0, none⟩) (ly9 h d p0 p1).objs ∧ Lies wx wg 24 #[Value.slice (some ⟨g, 0, none⟩) h.objs.length c9, Value.int .i64 h.cap, Value.int .i64 h.last] ∧ Lies wx w.heap.size 24 #[Value.slice (some ⟨b, off, none⟩) h.objs.length dA, Value.int .i64 h.cap, Value.int .i64 h.last] ∧ Lies wx (w.heap.size + 1) 50 #[.int .i64 p0, .int .i64 p1, .int .i64 p2] ∧ Below w.heap.size w wx)
                      case first =>
                        refine wp_region_held_drew (S := (fun w' => w'.cell? ⟨wg, 0, none⟩ = some (.slice (some ⟨g, 0, none⟩) h.objs.length c9) ∧ w'.cell? ⟨w.heap.size + 1, 0, none⟩ = some (.int .i64 p0) ∧ w'.cell? ⟨w.heap.size + 1, 1, none⟩ = some (.int .i64 p1))) (by kernel_rfl) ?_ (fun hH0 => ?_)
                        · exact ⟨y0, v0, v1⟩
                        refine wpAnyH_take (i := 0) (oi := { dst := some 125, op := Go.Op.fieldAddr 24 (Go.Operand.tmp 10) 0, type := 0, pos := "law.go:106", after := #[], guard := none }) (v := ?vv196) rfl (by kernel_rfl) (by kernel_rfl) (by kernel_rfl) (fun _ _ _ h => h) (Or.inl ⟨by rfl, ?hy196⟩) (by assumption) ?rr196
                        case hy196 => intro w hSw; (try dsimp only at hSw); go_simp; all_goals with_reducible rfl
                        try simp only [Act.put, List.setIfInBounds_toArray, List.set_cons_zero, List.set_cons_succ]
                        refine wpAnyH_take (i := 1) (oi := { dst := some 126, op := Go.Op.load 22 (Go.Operand.tmp 125), type := 22, pos := "law.go:106", after := #[{ on := 0, ground := Go.Ground.data }], guard := none }) (v := ?vv197) rfl (by kernel_rfl) (by kernel_rfl) (by kernel_rfl) (fun _ _ _ h => h) (Or.inl ⟨by rfl, ?hy197⟩) (by assumption) ?rr197
                        case hy197 => intro w hSw; (try dsimp only at hSw); go_simp; all_goals with_reducible rfl
                        try simp only [Act.put, List.setIfInBounds_toArray, List.set_cons_zero, List.set_cons_succ]
                        refine wpAnyH_take (i := 2) (oi := { dst := some 127, op := Go.Op.move (Go.Operand.tmp 11), type := 3, pos := "law.go:106", after := #[], guard := none }) (v := ?vv198) rfl (by kernel_rfl) (by kernel_rfl) (by kernel_rfl) (fun _ _ _ h => h) (Or.inl ⟨by rfl, ?hy198⟩) (by assumption) ?rr198
                        case hy198 => intro w hSw; (try dsimp only at hSw); go_simp; all_goals with_reducible rfl
                        try simp only [Act.put, List.setIfInBounds_toArray, List.set_cons_zero, List.set_cons_succ]
                        refine wpAnyH_take (i := 3) (oi := { dst := some 128, op := Go.Op.indexAddr 50 (Go.Operand.tmp 5) (Go.Operand.const (Go.Value.int Go.IntKind.i64 0)), type := 0, pos := "law.go:106", after := #[], guard := none }) (v := ?vv199) rfl (by kernel_rfl) (by kernel_rfl) (by kernel_rfl) (fun _ _ _ h => h) (Or.inl ⟨by rfl, ?hy199⟩) (by assumption) ?rr199
                        case hy199 => intro w hSw; (try dsimp only at hSw); go_simp; all_goals with_reducible rfl
                        try simp only [Act.put, List.setIfInBounds_toArray, List.set_cons_zero, List.set_cons_succ]
                        refine wpAnyH_take (i := 4) (oi := { dst := some 129, op := Go.Op.load 3 (Go.Operand.tmp 128), type := 3, pos := "law.go:106", after := #[{ on := 3, ground := Go.Ground.data }], guard := none }) (v := ?vv200) rfl (by kernel_rfl) (by kernel_rfl) (by kernel_rfl) (fun _ _ _ h => h) (Or.inl ⟨by rfl, ?hy200⟩) (by assumption) ?rr200
                        case hy200 => intro w hSw; (try dsimp only at hSw); go_simp; all_goals with_reducible rfl
                        try simp only [Act.put, List.setIfInBounds_toArray, List.set_cons_zero, List.set_cons_succ]
                        refine wpAnyH_take (i := 5) (oi := { dst := some 130, op := Go.Op.indexAddr 50 (Go.Operand.tmp 5) (Go.Operand.const (Go.Value.int Go.IntKind.i64 1)), type := 0, pos := "law.go:106", after := #[], guard := none }) (v := ?vv201) rfl (by kernel_rfl) (by kernel_rfl) (by kernel_rfl) (fun _ _ _ h => h) (Or.inl ⟨by rfl, ?hy201⟩) (by assumption) ?rr201
                        case hy201 => intro w hSw; (try dsimp only at hSw); go_simp; all_goals with_reducible rfl
                        try simp only [Act.put, List.setIfInBounds_toArray, List.set_cons_zero, List.set_cons_succ]
                        refine wpAnyH_take (i := 6) (oi := { dst := some 131, op := Go.Op.load 3 (Go.Operand.tmp 130), type := 3, pos := "law.go:106", after := #[{ on := 5, ground := Go.Ground.data }], guard := none }) (v := ?vv202) rfl (by kernel_rfl) (by kernel_rfl) (by kernel_rfl) (fun _ _ _ h => h) (Or.inl ⟨by rfl, ?hy202⟩) (by assumption) ?rr202
                        case hy202 => intro w hSw; (try dsimp only at hSw); go_simp; all_goals with_reducible rfl
                        try simp only [Act.put, List.setIfInBounds_toArray, List.set_cons_zero, List.set_cons_succ]
                        refine wpAnyH_take (i := 8) (oi := { dst := some 133, op := Go.Op.fieldAddr 24 (Go.Operand.tmp 10) 0, type := 0, pos := "law.go:106", after := #[], guard := none }) (v := ?vv203) rfl (by kernel_rfl) (by kernel_rfl) (by kernel_rfl) (fun _ _ _ h => h) (Or.inl ⟨by rfl, ?hy203⟩) (by assumption) ?rr203
                        case hy203 => intro w hSw; (try dsimp only at hSw); go_simp; all_goals with_reducible rfl
                        try simp only [Act.put, List.setIfInBounds_toArray, List.set_cons_zero, List.set_cons_succ]
                        refine wpAnyH_take (i := 9) (oi := { dst := some 134, op := Go.Op.load 22 (Go.Operand.tmp 133), type := 22, pos := "law.go:106", after := #[{ on := 8, ground := Go.Ground.data }], guard := none }) (v := ?vv204) rfl (by kernel_rfl) (by kernel_rfl) (by kernel_rfl) (fun _ _ _ h => h) (Or.inl ⟨by rfl, ?hy204⟩) (by assumption) ?rr204
                        case hy204 => intro w hSw; (try dsimp only at hSw); go_simp; all_goals with_reducible rfl
                        try simp only [Act.put, List.setIfInBounds_toArray, List.set_cons_zero, List.set_cons_succ]
                        refine wpAnyH_take (i := 10) (oi := { dst := some 135, op := Go.Op.move (Go.Operand.tmp 11), type := 3, pos := "law.go:106", after := #[], guard := none }) (v := ?vv205) rfl (by kernel_rfl) (by kernel_rfl) (by kernel_rfl) (fun _ _ _ h => h) (Or.inl ⟨by rfl, ?hy205⟩) (by assumption) ?rr205
                        case hy205 => intro w hSw; (try dsimp only at hSw); go_simp; all_goals with_reducible rfl
                        try simp only [Act.put, List.setIfInBounds_toArray, List.set_cons_zero, List.set_cons_succ]
                        refine wpAnyH_take (i := 11) (oi := { dst := some 136, op := Go.Op.indexAddr 22 (Go.Operand.tmp 134) (Go.Operand.tmp 135), type := 0, pos := "law.go:106", after := #[{ on := 9, ground := Go.Ground.data }, { on := 10, ground := Go.Ground.data }], guard := none }) (v := ?vv206) rfl (by kernel_rfl) (by kernel_rfl) (by kernel_rfl) (fun _ _ _ h => h) (Or.inl ⟨by rfl, ?hy206⟩) (by assumption) ?rr206
                        case hy206 => intro w hSw; (try dsimp only at hSw); go_simp; all_goals with_reducible rfl
                        try simp only [Act.put, List.setIfInBounds_toArray, List.set_cons_zero, List.set_cons_succ]
                        refine wpAnyH_take (i := 12) (oi := { dst := some 137, op := Go.Op.fieldAddr 46 (Go.Operand.tmp 136) 2, type := 0, pos := "law.go:106", after := #[{ on := 11, ground := Go.Ground.data }], guard := none }) (v := ?vv207) rfl (by kernel_rfl) (by kernel_rfl) (by kernel_rfl) (fun _ _ _ h => h) (Or.inl ⟨by rfl, ?hy207⟩) (by assumption) ?rr207
                        case hy207 => intro w hSw; (try dsimp only at hSw); go_simp; all_goals with_reducible rfl
                        try simp only [Act.put, List.setIfInBounds_toArray, List.set_cons_zero, List.set_cons_succ]
                        refine wpAnyH_ready (rs := [7, 13]) (by kernel_rfl) (by simp) ?_
                        refine AllReadyH.cons (i := 7) (o := { dst := some 132, op := Go.Op.buildSlice 44 2 #[(0, Go.Operand.tmp 129), (1, Go.Operand.tmp 131)], type := 44, pos := "law.go:106", after := #[{ on := 4, ground := Go.Ground.data }, { on := 6, ground := Go.Ground.data }], guard := none }) rfl (fun K hK => ?_) (AllReadyH.cons (i := 13) (o := { dst := some 138, op := Go.Op.load 44 (Go.Operand.tmp 137), type := 44, pos := "law.go:106", after := #[{ on := 12, ground := Go.Ground.data }], guard := none }) rfl (fun K hK => ?_) AllReadyH.nil)
                        · go_simp
                          refine hK.out _ _ ?_ (fun hH1 => ?_)
                          · exact ⟨cell_old hH0.1, cell_old hH0.2.1, cell_old hH0.2.2⟩
                          clear hK K
                          try simp only [Act.put, List.setIfInBounds_toArray, List.set_cons_zero, List.set_cons_succ]
                          have HD7 : Hid (Below wa.heap.size wa (wa.drew.alloc (.cells #[.int .i64 p0, .int .i64 p1] 3))) := hid ((Below.refl wa.heap.size wa).drew.trans (show Below wa.heap.size wa.drew _ from below_alloc wa.drew _))
                          obtain ⟨A7, c7, w7, hrun, hI7, hg7⟩ := run_two9 (own_two9 wa.drew p0 p1) l.S l.c l.o.slots (own_ints (own_later (HOA.out.ints i1 l HL.out) HD7.out)) (own_nil (HOA.out.ints i1 l HL.out)) (by rw [HLO.out, ← HLL.out]; have := HL64.out; omega) (below_alloc wa.drew _).size
                          have HRUN := hid hrun
                          have HI7 := hid hI7
                          have hr7 : ∀ k, (Value.slice (some ⟨wa.drew.heap.size, 0, none⟩) 2 2).ownBlock = some k → wa.heap.size ≤ k := fun k e => by
                            have e2 : some wa.heap.size = some k := e
                            injection e2 with e2
                            omega
                          have HB7 := hid ((Below.refl wa.heap.size (wa.drew.alloc (.cells #[.int .i64 p0, .int .i64 p1] 3))).grown hg7 HD7.out.size hr7)
                          have HW7 := hid (HD7.out.grown hg7 HD7.out.size hr7)
                          clear hrun hI7 hg7 hr7
                          refine wpAnyH_ready (rs := [13]) (by kernel_rfl) (by simp) ?_
                          refine AllReadyH.cons (i := 13) (o := { dst := some 138, op := Go.Op.load 44 (Go.Operand.tmp 137), type := 44, pos := "law.go:106", after := #[{ on := 12, ground := Go.Ground.data }], guard := none }) rfl (fun K hK => ?_) AllReadyH.nil
                          have r3 := cell_later (Below.refl (wa.alloc (.cells #[.int .i64 p0, .int .i64 p1] 3)).heap.size (wa.alloc (.cells #[.int .i64 p0, .int .i64 p1] 3))).drew (cell_old (ob := .cells #[.int .i64 p0, .int .i64 p1] 3) r2)
                          go_simp
                          refine hK.out _ _ ?_ (fun hH2 => ?_)
                          · exact hH1
                          clear hK K
                          try simp only [Act.put, List.setIfInBounds_toArray, List.set_cons_zero, List.set_cons_succ]
                          clear r3
                          refine wpAnyH_ready (rs := [14]) (by kernel_rfl) (by simp) ?_
                          refine AllReadyH.cons (i := 14) (o := { dst := some 139, op := Go.Op.call { callee := Go.Callee.builtin Go.Builtin.append, args := #[Go.Operand.tmp 132, Go.Operand.tmp 138], argTypes := #[44, 44] }, type := 44, pos := "law.go:106", after := #[{ on := 7, ground := Go.Ground.data }, { on := 13, ground := Go.Ground.data }], guard := none }) rfl (fun K hK => ?_) AllReadyH.nil
                          rw [if_pos (by rfl)]
                          refine wp_app_run (.tmp 132) (.tmp 138) 44 rfl _ _ HRUN.out ?_
                          refine hK.out _ _ ?_ (fun hH3 => ?_)
                          · exact ⟨(HB7.out.cell (p := ⟨wg, 0, none⟩) LT1).trans hH2.1, (HB7.out.cell (p := ⟨w.heap.size + 1, 0, none⟩) LT2).trans hH2.2.1, (HB7.out.cell (p := ⟨w.heap.size + 1, 1, none⟩) LT2).trans hH2.2.2⟩
                          clear hK K
                          try simp only [Act.put, List.setIfInBounds_toArray, List.set_cons_zero, List.set_cons_succ]
                          refine wpAnyH_take (i := 15) (oi := { dst := some 140, op := Go.Op.indexAddr 22 (Go.Operand.tmp 126) (Go.Operand.tmp 127), type := 0, pos := "law.go:106", after := #[{ on := 1, ground := Go.Ground.data }, { on := 2, ground := Go.Ground.data }, { on := 0, ground := Go.Ground.phase }, { on := 1, ground := Go.Ground.phase }, { on := 2, ground := Go.Ground.phase }, { on := 3, ground := Go.Ground.phase }, { on := 4, ground := Go.Ground.phase }, { on := 5, ground := Go.Ground.phase }, { on := 6, ground := Go.Ground.phase }, { on := 7, ground := Go.Ground.phase }, { on := 8, ground := Go.Ground.phase }, { on := 9, ground := Go.Ground.phase }, { on := 10, ground := Go.Ground.phase }, { on := 11, ground := Go.Ground.phase }, { on := 12, ground := Go.Ground.phase }, { on := 13, ground := Go.Ground.phase }, { on := 14, ground := Go.Ground.phase }], guard := none }) (v := ?vv208) rfl (by kernel_rfl) (by kernel_rfl) (by kernel_rfl) (fun _ _ _ h => h) (Or.inl ⟨by rfl, ?hy208⟩) (by assumption) ?rr208
                          case hy208 => intro w hSw; (try dsimp only at hSw); go_simp; all_goals with_reducible rfl
                          try simp only [Act.put, List.setIfInBounds_toArray, List.set_cons_zero, List.set_cons_succ]
                          refine wpAnyH_take (i := 16) (oi := { dst := some 141, op := Go.Op.fieldAddr 46 (Go.Operand.tmp 140) 2, type := 0, pos := "law.go:106", after := #[{ on := 15, ground := Go.Ground.data }, { on := 0, ground := Go.Ground.phase }, { on := 1, ground := Go.Ground.phase }, { on := 2, ground := Go.Ground.phase }, { on := 3, ground := Go.Ground.phase }, { on := 4, ground := Go.Ground.phase }, { on := 5, ground := Go.Ground.phase }, { on := 6, ground := Go.Ground.phase }, { on := 7, ground := Go.Ground.phase }, { on := 8, ground := Go.Ground.phase }, { on := 9, ground := Go.Ground.phase }, { on := 10, ground := Go.Ground.phase }, { on := 11, ground := Go.Ground.phase }, { on := 12, ground := Go.Ground.phase }, { on := 13, ground := Go.Ground.phase }, { on := 14, ground := Go.Ground.phase }], guard := none }) (v := ?vv209) rfl (by kernel_rfl) (by kernel_rfl) (by kernel_rfl) (fun _ _ _ h => h) (Or.inl ⟨by rfl, ?hy209⟩) (by assumption) ?rr209
                          case hy209 => intro w hSw; (try dsimp only at hSw); go_simp; all_goals with_reducible rfl
                          try simp only [Act.put, List.setIfInBounds_toArray, List.set_cons_zero, List.set_cons_succ]
                          refine wpAnyH_ready (rs := [17]) (by kernel_rfl) (by simp) ?_
                          refine AllReadyH.cons (i := 17) (o := { dst := none, op := Go.Op.store 44 (Go.Operand.tmp 141) (Go.Operand.tmp 139), type := 0, pos := "law.go:106", after := #[{ on := 16, ground := Go.Ground.data }, { on := 14, ground := Go.Ground.data }, { on := 14, ground := Go.Ground.chain }, { on := 0, ground := Go.Ground.phase }, { on := 1, ground := Go.Ground.phase }, { on := 2, ground := Go.Ground.phase }, { on := 3, ground := Go.Ground.phase }, { on := 4, ground := Go.Ground.phase }, { on := 5, ground := Go.Ground.phase }, { on := 6, ground := Go.Ground.phase }, { on := 7, ground := Go.Ground.phase }, { on := 8, ground := Go.Ground.phase }, { on := 9, ground := Go.Ground.phase }, { on := 10, ground := Go.Ground.phase }, { on := 11, ground := Go.Ground.phase }, { on := 12, ground := Go.Ground.phase }, { on := 13, ground := Go.Ground.phase }, { on := 14, ground := Go.Ground.phase }], guard := none }) rfl (fun K hK => ?_) AllReadyH.nil
                          have r7 := cell_later HW7.out r2
                          obtain ⟨cu7, hB7, -, -, -⟩ := own_blk (HOA.out.later HW7.out).row
                          have f7 := hB7.frozen (i1 * 6 + 2)
                          go_simp
                          refine hK.out _ _ ?_ (fun hH4 => ?_)
                          · exact ⟨far_cell9 NE1 hH3.1, far_cell9 NE2 hH3.2.1, far_cell9 NE2 hH3.2.2⟩
                          clear hK K
                          try simp only [Act.put, List.setIfInBounds_toArray, List.set_cons_zero, List.set_cons_succ]
                          refine wpAnyH_done (by kernel_rfl) ?_ _
                          go_wp2_with fail
                          go_meet
                          have ho := obs_ahead9 (HOA.out.later HW7.out) HL.out HI7.out
                          have hat : (atV d).toNat = i1 := by have := refI_nonneg HRD.out; omega
                          have e9 : (ls.map (·.o)).set i1 (ahead9 l.o p0 p1) = (ly9 h d p0 p1).objs := by unfold ly9; simp only; rw [HLS.out, HLO.out, hat]
                          rw [e9] at ho
                          exact ⟨ho, (HGA.out.later HW7.out).far (p := ⟨g, i1 * 6 + 2, none⟩) NE1 _, (HXA.out.later HW7.out).far (p := ⟨g, i1 * 6 + 2, none⟩) NE3 _, (HVA.out.later HW7.out).far (p := ⟨g, i1 * 6 + 2, none⟩) NE2 _, (HWA.out.trans (HW7.out.mono HWA.out.size)).setCell (p := ⟨g, i1 * 6 + 2, none⟩) HGB0.out _⟩
                        · have r3 := cell_later (Below.refl (wa.alloc (.cells #[.int .i64 p0, .int .i64 p1] 3)).heap.size (wa.alloc (.cells #[.int .i64 p0, .int .i64 p1] 3))).drew (cell_old (ob := .cells #[.int .i64 p0, .int .i64 p1] 3) r2)
                          go_simp
                          refine hK.out _ _ ?_ (fun hH1 => ?_)
                          · exact hH0
                          clear hK K
                          try simp only [Act.put, List.setIfInBounds_toArray, List.set_cons_zero, List.set_cons_succ]
                          clear r3
                          refine wpAnyH_ready (rs := [7]) (by kernel_rfl) (by simp) ?_
                          refine AllReadyH.cons (i := 7) (o := { dst := some 132, op := Go.Op.buildSlice 44 2 #[(0, Go.Operand.tmp 129), (1, Go.Operand.tmp 131)], type := 44, pos := "law.go:106", after := #[{ on := 4, ground := Go.Ground.data }, { on := 6, ground := Go.Ground.data }], guard := none }) rfl (fun K hK => ?_) AllReadyH.nil
                          go_simp
                          refine hK.out _ _ ?_ (fun hH2 => ?_)
                          · exact ⟨cell_old hH1.1, cell_old hH1.2.1, cell_old hH1.2.2⟩
                          clear hK K
                          try simp only [Act.put, List.setIfInBounds_toArray, List.set_cons_zero, List.set_cons_succ]
                          have HD7 : Hid (Below wa.heap.size wa (wa.drew.alloc (.cells #[.int .i64 p0, .int .i64 p1] 3))) := hid ((Below.refl wa.heap.size wa).drew.trans (show Below wa.heap.size wa.drew _ from below_alloc wa.drew _))
                          obtain ⟨A7, c7, w7, hrun, hI7, hg7⟩ := run_two9 (own_two9 wa.drew p0 p1) l.S l.c l.o.slots (own_ints (own_later (HOA.out.ints i1 l HL.out) HD7.out)) (own_nil (HOA.out.ints i1 l HL.out)) (by rw [HLO.out, ← HLL.out]; have := HL64.out; omega) (below_alloc wa.drew _).size
                          have HRUN := hid hrun
                          have HI7 := hid hI7
                          have hr7 : ∀ k, (Value.slice (some ⟨wa.drew.heap.size, 0, none⟩) 2 2).ownBlock = some k → wa.heap.size ≤ k := fun k e => by
                            have e2 : some wa.heap.size = some k := e
                            injection e2 with e2
                            omega
                          have HB7 := hid ((Below.refl wa.heap.size (wa.drew.alloc (.cells #[.int .i64 p0, .int .i64 p1] 3))).grown hg7 HD7.out.size hr7)
                          have HW7 := hid (HD7.out.grown hg7 HD7.out.size hr7)
                          clear hrun hI7 hg7 hr7
                          refine wpAnyH_ready (rs := [14]) (by kernel_rfl) (by simp) ?_
                          refine AllReadyH.cons (i := 14) (o := { dst := some 139, op := Go.Op.call { callee := Go.Callee.builtin Go.Builtin.append, args := #[Go.Operand.tmp 132, Go.Operand.tmp 138], argTypes := #[44, 44] }, type := 44, pos := "law.go:106", after := #[{ on := 7, ground := Go.Ground.data }, { on := 13, ground := Go.Ground.data }], guard := none }) rfl (fun K hK => ?_) AllReadyH.nil
                          rw [if_pos (by rfl)]
                          refine wp_app_run (.tmp 132) (.tmp 138) 44 rfl _ _ HRUN.out ?_
                          refine hK.out _ _ ?_ (fun hH3 => ?_)
                          · exact ⟨(HB7.out.cell (p := ⟨wg, 0, none⟩) LT1).trans hH2.1, (HB7.out.cell (p := ⟨w.heap.size + 1, 0, none⟩) LT2).trans hH2.2.1, (HB7.out.cell (p := ⟨w.heap.size + 1, 1, none⟩) LT2).trans hH2.2.2⟩
                          clear hK K
                          try simp only [Act.put, List.setIfInBounds_toArray, List.set_cons_zero, List.set_cons_succ]
                          refine wpAnyH_take (i := 15) (oi := { dst := some 140, op := Go.Op.indexAddr 22 (Go.Operand.tmp 126) (Go.Operand.tmp 127), type := 0, pos := "law.go:106", after := #[{ on := 1, ground := Go.Ground.data }, { on := 2, ground := Go.Ground.data }, { on := 0, ground := Go.Ground.phase }, { on := 1, ground := Go.Ground.phase }, { on := 2, ground := Go.Ground.phase }, { on := 3, ground := Go.Ground.phase }, { on := 4, ground := Go.Ground.phase }, { on := 5, ground := Go.Ground.phase }, { on := 6, ground := Go.Ground.phase }, { on := 7, ground := Go.Ground.phase }, { on := 8, ground := Go.Ground.phase }, { on := 9, ground := Go.Ground.phase }, { on := 10, ground := Go.Ground.phase }, { on := 11, ground := Go.Ground.phase }, { on := 12, ground := Go.Ground.phase }, { on := 13, ground := Go.Ground.phase }, { on := 14, ground := Go.Ground.phase }], guard := none }) (v := ?vv210) rfl (by kernel_rfl) (by kernel_rfl) (by kernel_rfl) (fun _ _ _ h => h) (Or.inl ⟨by rfl, ?hy210⟩) (by assumption) ?rr210
                          case hy210 => intro w hSw; (try dsimp only at hSw); go_simp; all_goals with_reducible rfl
                          try simp only [Act.put, List.setIfInBounds_toArray, List.set_cons_zero, List.set_cons_succ]
                          refine wpAnyH_take (i := 16) (oi := { dst := some 141, op := Go.Op.fieldAddr 46 (Go.Operand.tmp 140) 2, type := 0, pos := "law.go:106", after := #[{ on := 15, ground := Go.Ground.data }, { on := 0, ground := Go.Ground.phase }, { on := 1, ground := Go.Ground.phase }, { on := 2, ground := Go.Ground.phase }, { on := 3, ground := Go.Ground.phase }, { on := 4, ground := Go.Ground.phase }, { on := 5, ground := Go.Ground.phase }, { on := 6, ground := Go.Ground.phase }, { on := 7, ground := Go.Ground.phase }, { on := 8, ground := Go.Ground.phase }, { on := 9, ground := Go.Ground.phase }, { on := 10, ground := Go.Ground.phase }, { on := 11, ground := Go.Ground.phase }, { on := 12, ground := Go.Ground.phase }, { on := 13, ground := Go.Ground.phase }, { on := 14, ground := Go.Ground.phase }], guard := none }) (v := ?vv211) rfl (by kernel_rfl) (by kernel_rfl) (by kernel_rfl) (fun _ _ _ h => h) (Or.inl ⟨by rfl, ?hy211⟩) (by assumption) ?rr211
                          case hy211 => intro w hSw; (try dsimp only at hSw); go_simp; all_goals with_reducible rfl
                          try simp only [Act.put, List.setIfInBounds_toArray, List.set_cons_zero, List.set_cons_succ]
                          refine wpAnyH_ready (rs := [17]) (by kernel_rfl) (by simp) ?_
                          refine AllReadyH.cons (i := 17) (o := { dst := none, op := Go.Op.store 44 (Go.Operand.tmp 141) (Go.Operand.tmp 139), type := 0, pos := "law.go:106", after := #[{ on := 16, ground := Go.Ground.data }, { on := 14, ground := Go.Ground.data }, { on := 14, ground := Go.Ground.chain }, { on := 0, ground := Go.Ground.phase }, { on := 1, ground := Go.Ground.phase }, { on := 2, ground := Go.Ground.phase }, { on := 3, ground := Go.Ground.phase }, { on := 4, ground := Go.Ground.phase }, { on := 5, ground := Go.Ground.phase }, { on := 6, ground := Go.Ground.phase }, { on := 7, ground := Go.Ground.phase }, { on := 8, ground := Go.Ground.phase }, { on := 9, ground := Go.Ground.phase }, { on := 10, ground := Go.Ground.phase }, { on := 11, ground := Go.Ground.phase }, { on := 12, ground := Go.Ground.phase }, { on := 13, ground := Go.Ground.phase }, { on := 14, ground := Go.Ground.phase }], guard := none }) rfl (fun K hK => ?_) AllReadyH.nil
                          have r7 := cell_later HW7.out r2
                          obtain ⟨cu7, hB7, -, -, -⟩ := own_blk (HOA.out.later HW7.out).row
                          have f7 := hB7.frozen (i1 * 6 + 2)
                          go_simp
                          refine hK.out _ _ ?_ (fun hH4 => ?_)
                          · exact ⟨far_cell9 NE1 hH3.1, far_cell9 NE2 hH3.2.1, far_cell9 NE2 hH3.2.2⟩
                          clear hK K
                          try simp only [Act.put, List.setIfInBounds_toArray, List.set_cons_zero, List.set_cons_succ]
                          refine wpAnyH_done (by kernel_rfl) ?_ _
                          go_wp2_with fail
                          go_meet
                          have ho := obs_ahead9 (HOA.out.later HW7.out) HL.out HI7.out
                          have hat : (atV d).toNat = i1 := by have := refI_nonneg HRD.out; omega
                          have e9 : (ls.map (·.o)).set i1 (ahead9 l.o p0 p1) = (ly9 h d p0 p1).objs := by unfold ly9; simp only; rw [HLS.out, HLO.out, hat]
                          rw [e9] at ho
                          exact ⟨ho, (HGA.out.later HW7.out).far (p := ⟨g, i1 * 6 + 2, none⟩) NE1 _, (HXA.out.later HW7.out).far (p := ⟨g, i1 * 6 + 2, none⟩) NE3 _, (HVA.out.later HW7.out).far (p := ⟨g, i1 * 6 + 2, none⟩) NE2 _, (HWA.out.trans (HW7.out.mono HWA.out.size)).setCell (p := ⟨g, i1 * 6 + 2, none⟩) HGB0.out _⟩
                      case rest =>
                        rename World => w40
                        obtain ⟨hob, hg, hx, hv, hb⟩ := hcut
                        have HO40 := hid hob
                        have HG40 := hid hg
                        have HX40 := hid hx
                        have HV40 := hid hv
                        have HW40 := hid hb
                        have HGF := hid (fit_ly9 HGM.out)
                        clear hob hg hx hv hb y0 v0 v1 r2 NE1 NE2 NE3 LT1 LT2
                        have x0 := HX40.out.cell 0
                        have x1 := HX40.out.cell 1
                        have x2 := HX40.out.cell 2
                        have y0 := HG40.out.cell 0
                        have y1 := HG40.out.cell 1
                        have y2 := HG40.out.cell 2
                        have v0 := HV40.out.cell 0
                        have v1 := HV40.out.cell 1
                        have v2 := HV40.out.cell 2
                        simp only [List.getElem?_toArray, List.getElem?_cons_zero, List.getElem?_cons_succ] at x0 x1 x2 y0 y1 y2 v0 v1 v2
                        go_wp2_with fail
                        refine (gclass9 h d p0 p1 d (some ⟨g, 0, none⟩) c9 _ HO40.out HGF.out).mono ?_
                        rintro e_ w41 ⟨rfl, hb⟩
                        have HW41 := hid (HW40.out.trans (hb.mono HW40.out.size))
                        have HX41 := hid (HX40.out.later hb)
                        have HV41 := hid (HV40.out.later hb)
                        have HG41 := hid (HG40.out.later hb)
                        have HO41 := hid (HO40.out.below hb)
                        clear hb x0 x1 x2 y0 y1 y2 v0 v1 v2
                        cases ng : clB9 (ly9 h d p0 p1) d
                        · have NG := hid ng
                          have FN : Hid (lk9 (ly9 h d p0 p1) c p0 = (p1, c, 0)) := (lk9_may HGM.out c p0).trans (fi_new9 HM.out HGM.out HRD.out HD0.out HKD.out NH.out NG.out HCL.out HD.out.symm)
                          clear ng
                          have x0 := HX41.out.cell 0
                          have x1 := HX41.out.cell 1
                          have x2 := HX41.out.cell 2
                          have y0 := HG41.out.cell 0
                          have y1 := HG41.out.cell 1
                          have y2 := HG41.out.cell 2
                          have v0 := HV41.out.cell 0
                          have v1 := HV41.out.cell 1
                          have v2 := HV41.out.cell 2
                          simp only [List.getElem?_toArray, List.getElem?_cons_zero, List.getElem?_cons_succ] at x0 x1 x2 y0 y1 y2 v0 v1 v2
                          go_wp2_with fail
                          refine (gfind9 h d p0 p1 c p0 (some ⟨g, 0, none⟩) c9 _ HO41.out HGF.out).mono ?_
                          rintro e_ w42 ⟨rfl, hb⟩
                          rw [FN.out]
                          have HW42 := hid (HW41.out.trans (hb.mono HW41.out.size))
                          have HX42 := hid (HX41.out.later hb)
                          have HV42 := hid (HV41.out.later hb)
                          have HG42 := hid (HG41.out.later hb)
                          have HO42 := hid (HO41.out.below hb)
                          clear hb x0 x1 x2 y0 y1 y2 v0 v1 v2
                          obtain ⟨r1, r2, r3, hr⟩ : ∃ a b e, lk9 h c p2 = (a, b, e) := ⟨_, _, _, rfl⟩
                          have HR := hid hr
                          clear hr
                          by_cases hs : p2 = p0
                          · subst hs
                            have x0 := HX42.out.cell 0
                            have x1 := HX42.out.cell 1
                            have x2 := HX42.out.cell 2
                            have y0 := HG42.out.cell 0
                            have y1 := HG42.out.cell 1
                            have y2 := HG42.out.cell 2
                            have v0 := HV42.out.cell 0
                            have v1 := HV42.out.cell 1
                            have v2 := HV42.out.cell 2
                            simp only [List.getElem?_toArray, List.getElem?_cons_zero, List.getElem?_cons_succ] at x0 x1 x2 y0 y1 y2 v0 v1 v2
                            go_wp2_with fail
                            refine (lfind_any9 h c p2 (some ⟨b, off, none⟩) dA _ (HSO.out.below HW42.out) HF.out).mono ?_
                            rintro e_ w43 ⟨rfl, hb⟩
                            rw [HR.out]
                            have HW43 := hid (HW42.out.trans (hb.mono HW42.out.size))
                            have HX43 := hid (HX42.out.later hb)
                            have HV43 := hid (HV42.out.later hb)
                            have HG43 := hid (HG42.out.later hb)
                            have HO43 := hid (HO42.out.below hb)
                            clear hb x0 x1 x2 y0 y1 y2 v0 v1 v2
                            have x0 := HX43.out.cell 0
                            have x1 := HX43.out.cell 1
                            have x2 := HX43.out.cell 2
                            have y0 := HG43.out.cell 0
                            have y1 := HG43.out.cell 1
                            have y2 := HG43.out.cell 2
                            have v0 := HV43.out.cell 0
                            have v1 := HV43.out.cell 1
                            have v2 := HV43.out.cell 2
                            simp only [List.getElem?_toArray, List.getElem?_cons_zero, List.getElem?_cons_succ] at x0 x1 x2 y0 y1 y2 v0 v1 v2
                            go_wp2_with fail
                            refine (gfind9 h d p2 p1 c p2 (some ⟨g, 0, none⟩) c9 _ HO43.out HGF.out).mono ?_
                            rintro e_ w44 ⟨rfl, hb⟩
                            rw [FN.out]
                            have HW44 := hid (HW43.out.trans (hb.mono HW43.out.size))
                            have HX44 := hid (HX43.out.later hb)
                            have HV44 := hid (HV43.out.later hb)
                            have HG44 := hid (HG43.out.later hb)
                            have HO44 := hid (HO43.out.below hb)
                            clear hb x0 x1 x2 y0 y1 y2 v0 v1 v2
                            have x0 := HX44.out.cell 0
                            have x1 := HX44.out.cell 1
                            have x2 := HX44.out.cell 2
                            have y0 := HG44.out.cell 0
                            have y1 := HG44.out.cell 1
                            have y2 := HG44.out.cell 2
                            have v0 := HV44.out.cell 0
                            have v1 := HV44.out.cell 1
                            have v2 := HV44.out.cell 2
                            simp only [List.getElem?_toArray, List.getElem?_cons_zero, List.getElem?_cons_succ] at x0 x1 x2 y0 y1 y2 v0 v1 v2
                            go_wp2_with fail
                            go_ret
                            exact ⟨by first | rfl | simp, HW44.out⟩
                          · have FO : Hid (lk9 (ly9 h d p0 p1) c p2 = (r1, r2, r3)) := by
                              show _ = _
                              rw [lk9_may HGM.out, fi_ly9 HM.out HGM.out HRD.out HD0.out HKD.out NH.out NG.out (fun f => hs f.symm) 64 c (.inl rfl), ← lk9_may HM.out]
                              exact HR.out
                            have CG : Hid (clB9 (ly9 h d p0 p1) c = true) := (cl_ly9 HM.out HGM.out HRD.out HD0.out NH.out NG.out c).trans HCL.out
                            have hsB : (p2 == p0) = false := beq_eq_false_iff_ne.2 hs
                            have hsD : decide (p2 = p0) = false := decide_eq_false hs
                            have x0 := HX42.out.cell 0
                            have x1 := HX42.out.cell 1
                            have x2 := HX42.out.cell 2
                            have y0 := HG42.out.cell 0
                            have y1 := HG42.out.cell 1
                            have y2 := HG42.out.cell 2
                            have v0 := HV42.out.cell 0
                            have v1 := HV42.out.cell 1
                            have v2 := HV42.out.cell 2
                            simp only [List.getElem?_toArray, List.getElem?_cons_zero, List.getElem?_cons_succ] at x0 x1 x2 y0 y1 y2 v0 v1 v2
                            go_wp2_with fail
                            refine (lfind_any9 h c p2 (some ⟨b, off, none⟩) dA _ (HSO.out.below HW42.out) HF.out).mono ?_
                            rintro e_ w43 ⟨rfl, hb⟩
                            rw [HR.out]
                            have HW43 := hid (HW42.out.trans (hb.mono HW42.out.size))
                            have HX43 := hid (HX42.out.later hb)
                            have HV43 := hid (HV42.out.later hb)
                            have HG43 := hid (HG42.out.later hb)
                            have HO43 := hid (HO42.out.below hb)
                            clear hb x0 x1 x2 y0 y1 y2 v0 v1 v2
                            have x0 := HX43.out.cell 0
                            have x1 := HX43.out.cell 1
                            have x2 := HX43.out.cell 2
                            have y0 := HG43.out.cell 0
                            have y1 := HG43.out.cell 1
                            have y2 := HG43.out.cell 2
                            have v0 := HV43.out.cell 0
                            have v1 := HV43.out.cell 1
                            have v2 := HV43.out.cell 2
                            simp only [List.getElem?_toArray, List.getElem?_cons_zero, List.getElem?_cons_succ] at x0 x1 x2 y0 y1 y2 v0 v1 v2
                            go_wp2_with fail
                            refine (gfind9 h d p0 p1 c p2 (some ⟨g, 0, none⟩) c9 _ HO43.out HGF.out).mono ?_
                            rintro e_ w44 ⟨rfl, hb⟩
                            rw [FO.out]
                            have HW44 := hid (HW43.out.trans (hb.mono HW43.out.size))
                            have HX44 := hid (HX43.out.later hb)
                            have HV44 := hid (HV43.out.later hb)
                            have HG44 := hid (HG43.out.later hb)
                            have HO44 := hid (HO43.out.below hb)
                            clear hb x0 x1 x2 y0 y1 y2 v0 v1 v2
                            have x0 := HX44.out.cell 0
                            have x1 := HX44.out.cell 1
                            have x2 := HX44.out.cell 2
                            have y0 := HG44.out.cell 0
                            have y1 := HG44.out.cell 1
                            have y2 := HG44.out.cell 2
                            have v0 := HV44.out.cell 0
                            have v1 := HV44.out.cell 1
                            have v2 := HV44.out.cell 2
                            simp only [List.getElem?_toArray, List.getElem?_cons_zero, List.getElem?_cons_succ] at x0 x1 x2 y0 y1 y2 v0 v1 v2
                            go_wp2_with fail
                            refine (gclass9 h d p0 p1 c (some ⟨g, 0, none⟩) c9 _ HO44.out HGF.out).mono ?_
                            rintro e_ w45 ⟨rfl, hb⟩
                            rw [CG.out]
                            have HW45 := hid (HW44.out.trans (hb.mono HW44.out.size))
                            have HX45 := hid (HX44.out.later hb)
                            have HV45 := hid (HV44.out.later hb)
                            have HG45 := hid (HG44.out.later hb)
                            have HO45 := hid (HO44.out.below hb)
                            clear hb x0 x1 x2 y0 y1 y2 v0 v1 v2
                            have x0 := HX45.out.cell 0
                            have x1 := HX45.out.cell 1
                            have x2 := HX45.out.cell 2
                            have y0 := HG45.out.cell 0
                            have y1 := HG45.out.cell 1
                            have y2 := HG45.out.cell 2
                            have v0 := HV45.out.cell 0
                            have v1 := HV45.out.cell 1
                            have v2 := HV45.out.cell 2
                            simp only [List.getElem?_toArray, List.getElem?_cons_zero, List.getElem?_cons_succ] at x0 x1 x2 y0 y1 y2 v0 v1 v2
                            go_wp2_with fail
                            go_ret
                            exact ⟨by first | rfl | simp, HW45.out⟩
                        · clear ng
                          have x0 := HX41.out.cell 0
                          have x1 := HX41.out.cell 1
                          have x2 := HX41.out.cell 2
                          have y0 := HG41.out.cell 0
                          have y1 := HG41.out.cell 1
                          have y2 := HG41.out.cell 2
                          have v0 := HV41.out.cell 0
                          have v1 := HV41.out.cell 1
                          have v2 := HV41.out.cell 2
                          simp only [List.getElem?_toArray, List.getElem?_cons_zero, List.getElem?_cons_succ] at x0 x1 x2 y0 y1 y2 v0 v1 v2
                          go_wp2_with fail
                          go_ret
                          exact ⟨by first | rfl | simp, HW41.out⟩
end Go.Proofs.Ytfdjghllnbiffaa
