/- MoveRoom walked: whatever heap and roots, it answers true. -/
import Derived.Test.YtelljlmjhnjpiaaVG
import Derived.Test.YtelljlmjhnjpiaaNL
import Derived.Test.YtelljlmjhnjpiaaR
import Derived.Test.YtelljlmjhnjpiaaN
import Derived.Test.YtelljlmjhnjpiaaMB
namespace Go.Proofs.Ytelljlmjhnjpiaa
open Go.RowKit
set_option maxRecDepth 100000
theorem room_get {h : Hp} {rs : List Int} (e : liE h rs = 0) {j : Nat} (hj : j < (liveL h rs).length) : ∃ (q : Nat) (o : Ob), (liveL h rs)[j]? = some (q : Int) ∧ h.objs[q]? = some o ∧ (coH h rs).objs[j]? = some (moO (tabL h rs) o) := by
  rw [liveL_length] at hj
  obtain ⟨o, h1, h2⟩ := coH_get e hj
  exact ⟨_, o, by unfold liveL; rw [List.getElem?_map, List.getElem?_eq_getElem hj]; rfl, h1, h2⟩
theorem two_old {w : World} {p : Addr} {v : Value} {o1 o2 : Obj} (h : w.cell? p = some v) : ((w.alloc o1).alloc o2).drew.cell? p = some v := cell_later (Below.refl _ _).drew (cell_old (cell_old h))
set_option maxHeartbeats 1500000 in
theorem roomy_any (h : Hp) (rs : List Int) (A : Option Addr) (c : Nat) (R : Option Addr) (d : Nat) (w : World) (hs : ObsR w A h.objs) (fit : h.Fit) (hr : IntsR w R rs) (hl : rs.length ≤ 9223372036854775807) :
    Calls Try.prog 12 #[.agg #[.slice A h.objs.length c, .int .i64 h.cap, .int .i64 h.last], .slice R rs.length d] w fun e w' => e = .returned (.bool true) ∧ Below w.heap.size w w' := by
  have HB0 := hid (below_alloc w (.cells #[Value.slice A h.objs.length c, Value.int .i64 h.cap, Value.int .i64 h.last] 24))
  have X0 := hid (Lies.new w 24 #[Value.slice A h.objs.length c, Value.int .i64 h.cap, Value.int .i64 h.last])
  have O0 := hid (hs.below HB0.out)
  have R0 := hid (hr.below HB0.out)
  have HF := hid fit
  have hfl := fit.1
  clear hs fit hr
  go_enter Try.func12, Try.ntmps12
  go_wp2_with fail
  refine (fixed5_any _).mono ?_
  rintro e w1 ⟨rfl, hb⟩
  have HB1 := hid (HB0.out.trans (hb.mono HB0.out.size))
  have X1 := hid (X0.out.later hb)
  have O1 := hid (O0.out.below hb)
  have R1 := hid (R0.out.below hb)
  clear hb
  have x0 := X1.out.cell 0
  have x1 := X1.out.cell 1
  have x2 := X1.out.cell 2
  simp only [List.getElem?_toArray, List.getElem?_cons_zero, List.getElem?_cons_succ] at x0 x1 x2
  go_wp2_with fail
  refine (small_ok h A c _ O1.out HF.out).mono ?_
  rintro e w2 ⟨sm, rfl, hb⟩
  have HB2 := hid (HB1.out.trans (hb.mono HB1.out.size))
  have X2 := hid (X1.out.later hb)
  have O2 := hid (O1.out.below hb)
  have R2 := hid (R1.out.below hb)
  clear x0 x1 x2
  clear hb
  have x0 := X2.out.cell 0
  have x1 := X2.out.cell 1
  have x2 := X2.out.cell 2
  simp only [List.getElem?_toArray, List.getElem?_cons_zero, List.getElem?_cons_succ] at x0 x1 x2
  cases sm
  · go_wp2_with fail
    refine (fixed5_any _).mono ?_
    rintro e w3 ⟨rfl, hb⟩
    have HB3 := hid (HB2.out.trans (hb.mono HB2.out.size))
    have X3 := hid (X2.out.later hb)
    have O3 := hid (O2.out.below hb)
    have R3 := hid (R2.out.below hb)
    clear x0 x1 x2
    clear hb
    have x0 := X3.out.cell 0
    have x1 := X3.out.cell 1
    have x2 := X3.out.cell 2
    simp only [List.getElem?_toArray, List.getElem?_cons_zero, List.getElem?_cons_succ] at x0 x1 x2
    go_wp2_with fail
    go_ret
    exact ⟨rfl, HB3.out⟩
  · go_wp2_with fail
    refine (rmay_any h A c _ O2.out HF.out).mono ?_
    rintro e w3 ⟨rfl, hb⟩
    have HB3 := hid (HB2.out.trans (hb.mono HB2.out.size))
    have X3 := hid (X2.out.later hb)
    have O3 := hid (O2.out.below hb)
    have R3 := hid (R2.out.below hb)
    clear x0 x1 x2
    clear hb
    have x0 := X3.out.cell 0
    have x1 := X3.out.cell 1
    have x2 := X3.out.cell 2
    simp only [List.getElem?_toArray, List.getElem?_cons_zero, List.getElem?_cons_succ] at x0 x1 x2
    cases hm : mayB h
    · go_wp2_with fail
      refine (fixed5_any _).mono ?_
      rintro e w4 ⟨rfl, hb⟩
      have HB4 := hid (HB3.out.trans (hb.mono HB3.out.size))
      have X4 := hid (X3.out.later hb)
      have O4 := hid (O3.out.below hb)
      have R4 := hid (R3.out.below hb)
      clear x0 x1 x2
      clear hb
      have x0 := X4.out.cell 0
      have x1 := X4.out.cell 1
      have x2 := X4.out.cell 2
      simp only [List.getElem?_toArray, List.getElem?_cons_zero, List.getElem?_cons_succ] at x0 x1 x2
      go_wp2_with fail
      go_ret
      exact ⟨rfl, HB4.out⟩
    · have HM := hid hm
      clear hm
      by_cases c1 : 40 < h.objs.length
      · go_wp2_with fail
        refine (fixed5_any _).mono ?_
        rintro e w4 ⟨rfl, hb⟩
        have HB4 := hid (HB3.out.trans (hb.mono HB3.out.size))
        have X4 := hid (X3.out.later hb)
        have O4 := hid (O3.out.below hb)
        have R4 := hid (R3.out.below hb)
        clear x0 x1 x2
        clear hb
        have x0 := X4.out.cell 0
        have x1 := X4.out.cell 1
        have x2 := X4.out.cell 2
        simp only [List.getElem?_toArray, List.getElem?_cons_zero, List.getElem?_cons_succ] at x0 x1 x2
        go_wp2_with fail
        go_ret
        exact ⟨rfl, HB4.out⟩
      · by_cases c2 : 100 < rs.length
        · go_wp2_with fail
          refine (fixed5_any _).mono ?_
          rintro e w4 ⟨rfl, hb⟩
          have HB4 := hid (HB3.out.trans (hb.mono HB3.out.size))
          have X4 := hid (X3.out.later hb)
          have O4 := hid (O3.out.below hb)
          have R4 := hid (R3.out.below hb)
          clear x0 x1 x2
          clear hb
          have x0 := X4.out.cell 0
          have x1 := X4.out.cell 1
          have x2 := X4.out.cell 2
          simp only [List.getElem?_toArray, List.getElem?_cons_zero, List.getElem?_cons_succ] at x0 x1 x2
          go_wp2_with fail
          go_ret
          exact ⟨rfl, HB4.out⟩
        · by_cases he : liE h rs = 0
          · have HRG : Hid (∀ j, j < (liveL h rs).length → ∃ (q : Nat) (o : Ob), (liveL h rs)[j]? = some (q : Int) ∧ h.objs[q]? = some o ∧ (coH h rs).objs[j]? = some (moO (tabL h rs) o)) := fun j hj => room_get he hj
            have HLL := hid (li_ok he).2.2
            have hkl := coH_len he
            rw [← liveL_length] at hkl
            have hle := liveN_le h rs
            rw [← liveL_length] at hle
            have HCC : Hid ((coH h rs).cap = h.cap ∧ (coH h rs).last = h.last) := by show _ ∧ _; rw [coH_yes he]; exact ⟨rfl, rfl⟩
            obtain ⟨k, hk⟩ : ∃ k, k = coH h rs := ⟨_, rfl⟩
            obtain ⟨L, hL⟩ : ∃ L, L = liveL h rs := ⟨_, rfl⟩
            obtain ⟨t, ht⟩ : ∃ t, t = tabL h rs := ⟨_, rfl⟩
            rw [← hk, ← hL, ← ht] at HRG
            rw [← hL] at HLL hle
            rw [← hk] at HCC
            rw [← hk, ← hL] at hkl
            have HKK := hid hk
            clear hk hL ht
            go_wp2_with fail
            refine (rlive_any h rs A R c d _ O3.out HF.out R3.out hl).mono ?_
            rintro e w4 ⟨A4, c4, rfl, hi, -, -, hb⟩
            rw [he, HLL.out]
            rw [HLL.out] at hi
            have HB4 := hid (HB3.out.trans (hb.mono HB3.out.size))
            have X4 := hid (X3.out.later hb)
            have O4 := hid (O3.out.below hb)
            have R4 := hid (R3.out.below hb)
            have LL4 := hid (hi)
            clear x0 x1 x2
            clear hb
            clear hi
            have x0 := X4.out.cell 0
            have x1 := X4.out.cell 1
            have x2 := X4.out.cell 2
            simp only [List.getElem?_toArray, List.getElem?_cons_zero, List.getElem?_cons_succ] at x0 x1 x2
            go_wp2_with fail
            refine (compact_any h rs A R c d _ O4.out HF.out R4.out (by omega)).mono ?_
            rintro e w5 ⟨A5, c5, P5, d5, rfl, ho, -, hb⟩
            rw [he, ← HKK.out]
            rw [← HKK.out] at ho
            rw [HCC.out.1, HCC.out.2, hkl]
            have HAL := hid (below_alloc w5 (.cells #[Value.slice A5 L.length c5, Value.int .i64 h.cap, Value.int .i64 h.last] 24))
            have HB5 := hid ((HB4.out.trans (hb.mono HB4.out.size)).trans (HAL.out.mono (Nat.le_trans HB4.out.size hb.size)))
            have X5 := hid ((X4.out.later hb).later HAL.out)
            have O5 := hid ((O4.out.below hb).below HAL.out)
            have R5 := hid ((R4.out.below hb).below HAL.out)
            have LL5 := hid ((LL4.out.below hb).below HAL.out)
            have G5 := hid (Lies.new w5 24 #[Value.slice A5 L.length c5, Value.int .i64 h.cap, Value.int .i64 h.last])
            have OK5 := hid (ho.below HAL.out)
            clear x0 x1 x2
            clear hb
            clear ho HAL he
            have x0 := X5.out.cell 0
            have x1 := X5.out.cell 1
            have x2 := X5.out.cell 2
            have g0 := G5.out.cell 0
            have g1 := G5.out.cell 1
            have g2 := G5.out.cell 2
            simp only [List.getElem?_toArray, List.getElem?_cons_zero, List.getElem?_cons_succ] at x0 x1 x2 g0 g1 g2
            have HKL := hid hkl
            clear hkl
            go_wp2_with fail
            go_loopw [10] (fun i wr => ∃ j : Nat, j ≤ L.length ∧ i = .int .i64 j ∧ Lies wr w.heap.size 24 #[Value.slice A h.objs.length c, Value.int .i64 h.cap, Value.int .i64 h.last] ∧ Lies wr w5.heap.size 24 #[Value.slice A5 L.length c5, Value.int .i64 h.cap, Value.int .i64 h.last] ∧ Below (w5.alloc (.cells #[Value.slice A5 L.length c5, Value.int .i64 h.cap, Value.int .i64 h.last] 24)).heap.size (w5.alloc (.cells #[Value.slice A5 L.length c5, Value.int .i64 h.cap, Value.int .i64 h.last] 24)) wr) (fun i _ => L.length - (intOf i).toNat)
            case atStart => exact ⟨0, Nat.zero_le _, rfl, X5.out, G5.out, Below.refl _ _⟩
            case round =>
              clear x0 x1 x2 g0 g1 g2
              obtain ⟨j, hj, rfl, hx, hg, hbw⟩ := hrel
              rename World => wo
              have HX := hid hx
              have HG := hid hg
              have HW := hid hbw
              have x0 := hx.cell 0
              have x1 := hx.cell 1
              have x2 := hx.cell 2
              have g0 := hg.cell 0
              have g1 := hg.cell 1
              have g2 := hg.cell 2
              simp only [List.getElem?_toArray, List.getElem?_cons_zero, List.getElem?_cons_succ] at x0 x1 x2 g0 g1 g2
              clear hx hg hbw
              by_cases hlt : j < L.length
              · obtain ⟨q, o, hlq, hoq, hkj⟩ := HRG.out j hlt
                have hqn : q < h.objs.length := (List.getElem?_eq_some_iff.1 hoq).1
                obtain ⟨b, off, rfl, hb, hc⟩ := O5.out (by omega)
                obtain ⟨S, ds, hob, -, -, -⟩ := hc q _ hoq
                obtain ⟨b2, off2, rfl, hb2, hc2⟩ := OK5.out (by rw [HKL.out]; omega)
                obtain ⟨S2, ds2, hob2, -, -, -⟩ := hc2 j _ hkj
                obtain ⟨bl, ol, rfl, hbl, hcl⟩ := LL5.out (by omega)
                have lc := (HW.out.cell (p := ⟨bl, ol + j, none⟩) hbl).trans (hcl j _ hlq)
                obtain ⟨a0, a1, a2, a3, a4, a5⟩ := hob.below hb HW.out
                obtain ⟨b0, b1, b2', b3, b4, b5⟩ := hob2.below hb2 HW.out
                have hms : (moO t o).slots.length = o.slots.length := by simp [moO]
                rw [hms] at b2'
                simp only [moO] at b0 b1 b2' b3 b4 b5
                obtain ⟨z, hz⟩ : ∃ z, z = vaV t o.cls := ⟨_, rfl⟩
                rw [← hz] at b0
                clear hc hc2 hcl hob hob2 hlq hoq hkj hms hz
                go_wp2_with fail
                refine wp_region_held_drew (S := (fun w' => w'.cell? ⟨w.heap.size, 0, none⟩ = some (.slice (some ⟨b, off, none⟩) h.objs.length c) ∧ w'.cell? ⟨w5.heap.size, 0, none⟩ = some (.slice (some ⟨b2, off2, none⟩) L.length c5) ∧ w'.cell? ⟨bl, ol + j, none⟩ = some (.int .i64 (q : Int)) ∧ w'.cell? ⟨b, off + q * 6, none⟩ = some (.int .i64 o.cls) ∧ w'.cell? ⟨b, off + q * 6 + 1, none⟩ = some (.int .i64 o.kind) ∧ w'.cell? ⟨b, off + q * 6 + 2, none⟩ = some (.slice S o.slots.length ds) ∧ w'.cell? ⟨b, off + q * 6 + 3, none⟩ = some (.string o.text) ∧ w'.cell? ⟨b, off + q * 6 + 4, none⟩ = some (.int .i64 o.bits) ∧ w'.cell? ⟨b, off + q * 6 + 5, none⟩ = some (.int .i64 o.hash) ∧ w'.cell? ⟨b2, off2 + j * 6, none⟩ = some (.int .i64 z) ∧ w'.cell? ⟨b2, off2 + j * 6 + 1, none⟩ = some (.int .i64 o.kind) ∧ w'.cell? ⟨b2, off2 + j * 6 + 2, none⟩ = some (.slice S2 o.slots.length ds2) ∧ w'.cell? ⟨b2, off2 + j * 6 + 3, none⟩ = some (.string o.text) ∧ w'.cell? ⟨b2, off2 + j * 6 + 4, none⟩ = some (.int .i64 o.bits) ∧ w'.cell? ⟨b2, off2 + j * 6 + 5, none⟩ = some (.int .i64 o.hash))) (by kernel_rfl) ?_ (fun hH0 => ?_)
                · exact ⟨x0, g0, lc, a0, a1, a2, a3, a4, a5, b0, b1, b2', b3, b4, b5⟩
                refine wpAnyH_take (i := 0) (oi := { dst := some 67, op := Go.Op.fieldAddr 24 (Go.Operand.tmp 2) 0, type := 0, pos := "law.go:131", after := #[], guard := none }) (v := ?vv1) rfl (by kernel_rfl) (by kernel_rfl) (by kernel_rfl) (fun _ _ _ h => h) (Or.inl ⟨by rfl, ?hy1⟩) (by assumption) ?rr1
                case hy1 => intro w hSw; (try dsimp only at hSw); go_simp; all_goals with_reducible rfl
                try simp only [Act.put, List.setIfInBounds_toArray, List.set_cons_zero, List.set_cons_succ]
                refine wpAnyH_take (i := 1) (oi := { dst := some 68, op := Go.Op.load 22 (Go.Operand.tmp 67), type := 22, pos := "law.go:131", after := #[{ on := 0, ground := Go.Ground.data }], guard := none }) (v := ?vv2) rfl (by kernel_rfl) (by kernel_rfl) (by kernel_rfl) (fun _ _ _ h => h) (Or.inl ⟨by rfl, ?hy2⟩) (by assumption) ?rr2
                case hy2 => intro w hSw; (try dsimp only at hSw); go_simp; all_goals with_reducible rfl
                try simp only [Act.put, List.setIfInBounds_toArray, List.set_cons_zero, List.set_cons_succ]
                refine wpAnyH_take (i := 2) (oi := { dst := some 69, op := Go.Op.move (Go.Operand.tmp 5), type := 44, pos := "law.go:131", after := #[], guard := none }) (v := ?vv3) rfl (by kernel_rfl) (by kernel_rfl) (by kernel_rfl) (fun _ _ _ h => h) (Or.inl ⟨by rfl, ?hy3⟩) (by assumption) ?rr3
                case hy3 => intro w hSw; (try dsimp only at hSw); go_simp; all_goals with_reducible rfl
                try simp only [Act.put, List.setIfInBounds_toArray, List.set_cons_zero, List.set_cons_succ]
                refine wpAnyH_take (i := 3) (oi := { dst := some 70, op := Go.Op.move (Go.Operand.tmp 10), type := 3, pos := "law.go:131", after := #[], guard := none }) (v := ?vv4) rfl (by kernel_rfl) (by kernel_rfl) (by kernel_rfl) (fun _ _ _ h => h) (Or.inl ⟨by rfl, ?hy4⟩) (by assumption) ?rr4
                case hy4 => intro w hSw; (try dsimp only at hSw); go_simp; all_goals with_reducible rfl
                try simp only [Act.put, List.setIfInBounds_toArray, List.set_cons_zero, List.set_cons_succ]
                refine wpAnyH_take (i := 4) (oi := { dst := some 71, op := Go.Op.indexAddr 44 (Go.Operand.tmp 69) (Go.Operand.tmp 70), type := 0, pos := "law.go:131", after := #[{ on := 2, ground := Go.Ground.data }, { on := 3, ground := Go.Ground.data }], guard := none }) (v := ?vv5) rfl (by kernel_rfl) (by kernel_rfl) (by kernel_rfl) (fun _ _ _ h => h) (Or.inl ⟨by rfl, ?hy5⟩) (by assumption) ?rr5
                case hy5 => intro w hSw; (try dsimp only at hSw); go_simp; all_goals with_reducible rfl
                try simp only [Act.put, List.setIfInBounds_toArray, List.set_cons_zero, List.set_cons_succ]
                refine wpAnyH_take (i := 5) (oi := { dst := some 72, op := Go.Op.load 3 (Go.Operand.tmp 71), type := 3, pos := "law.go:131", after := #[{ on := 4, ground := Go.Ground.data }], guard := none }) (v := ?vv6) rfl (by kernel_rfl) (by kernel_rfl) (by kernel_rfl) (fun _ _ _ h => h) (Or.inl ⟨by rfl, ?hy6⟩) (by assumption) ?rr6
                case hy6 => intro w hSw; (try dsimp only at hSw); go_simp; all_goals with_reducible rfl
                try simp only [Act.put, List.setIfInBounds_toArray, List.set_cons_zero, List.set_cons_succ]
                refine wpAnyH_take (i := 6) (oi := { dst := some 73, op := Go.Op.indexAddr 22 (Go.Operand.tmp 68) (Go.Operand.tmp 72), type := 0, pos := "law.go:131", after := #[{ on := 1, ground := Go.Ground.data }, { on := 5, ground := Go.Ground.data }], guard := none }) (v := ?vv7) rfl (by kernel_rfl) (by kernel_rfl) (by kernel_rfl) (fun _ _ _ h => h) (Or.inl ⟨by rfl, ?hy7⟩) (by assumption) ?rr7
                case hy7 => intro w hSw; (try dsimp only at hSw); go_simp; all_goals with_reducible rfl
                try simp only [Act.put, List.setIfInBounds_toArray, List.set_cons_zero, List.set_cons_succ]
                refine wpAnyH_take (i := 7) (oi := { dst := some 74, op := Go.Op.load 46 (Go.Operand.tmp 73), type := 46, pos := "law.go:131", after := #[{ on := 6, ground := Go.Ground.data }], guard := none }) (v := ?vv8) rfl (by kernel_rfl) (by kernel_rfl) (by kernel_rfl) (fun _ _ _ h => h) (Or.inl ⟨by rfl, ?hy8⟩) (by assumption) ?rr8
                case hy8 => intro w hSw; (try dsimp only at hSw); go_simp; all_goals with_reducible rfl
                try simp only [Act.put, List.setIfInBounds_toArray, List.set_cons_zero, List.set_cons_succ]
                refine wpAnyH_take (i := 8) (oi := { dst := some 75, op := Go.Op.fieldAddr 24 (Go.Operand.tmp 7) 0, type := 0, pos := "law.go:131", after := #[{ on := 15, ground := Go.Ground.gcOnly Go.Departure.lateStores }], guard := none }) (v := ?vv9) rfl (by kernel_rfl) (by kernel_rfl) (by kernel_rfl) (fun _ _ _ h => h) (Or.inl ⟨by rfl, ?hy9⟩) (by assumption) ?rr9
                case hy9 => intro w hSw; (try dsimp only at hSw); go_simp; all_goals with_reducible rfl
                try simp only [Act.put, List.setIfInBounds_toArray, List.set_cons_zero, List.set_cons_succ]
                refine wpAnyH_take (i := 9) (oi := { dst := some 76, op := Go.Op.load 22 (Go.Operand.tmp 75), type := 22, pos := "law.go:131", after := #[{ on := 8, ground := Go.Ground.data }, { on := 15, ground := Go.Ground.gcOnly Go.Departure.lateStores }], guard := none }) (v := ?vv10) rfl (by kernel_rfl) (by kernel_rfl) (by kernel_rfl) (fun _ _ _ h => h) (Or.inl ⟨by rfl, ?hy10⟩) (by assumption) ?rr10
                case hy10 => intro w hSw; (try dsimp only at hSw); go_simp; all_goals with_reducible rfl
                try simp only [Act.put, List.setIfInBounds_toArray, List.set_cons_zero, List.set_cons_succ]
                refine wpAnyH_take (i := 10) (oi := { dst := some 77, op := Go.Op.move (Go.Operand.tmp 10), type := 3, pos := "law.go:131", after := #[{ on := 15, ground := Go.Ground.gcOnly Go.Departure.lateStores }], guard := none }) (v := ?vv11) rfl (by kernel_rfl) (by kernel_rfl) (by kernel_rfl) (fun _ _ _ h => h) (Or.inl ⟨by rfl, ?hy11⟩) (by assumption) ?rr11
                case hy11 => intro w hSw; (try dsimp only at hSw); go_simp; all_goals with_reducible rfl
                try simp only [Act.put, List.setIfInBounds_toArray, List.set_cons_zero, List.set_cons_succ]
                refine wpAnyH_take (i := 11) (oi := { dst := some 78, op := Go.Op.indexAddr 22 (Go.Operand.tmp 76) (Go.Operand.tmp 77), type := 0, pos := "law.go:131", after := #[{ on := 9, ground := Go.Ground.data }, { on := 10, ground := Go.Ground.data }, { on := 15, ground := Go.Ground.gcOnly Go.Departure.lateStores }], guard := none }) (v := ?vv12) rfl (by kernel_rfl) (by kernel_rfl) (by kernel_rfl) (fun _ _ _ h => h) (Or.inl ⟨by rfl, ?hy12⟩) (by assumption) ?rr12
                case hy12 => intro w hSw; (try dsimp only at hSw); go_simp; all_goals with_reducible rfl
                try simp only [Act.put, List.setIfInBounds_toArray, List.set_cons_zero, List.set_cons_succ]
                refine wpAnyH_take (i := 12) (oi := { dst := some 79, op := Go.Op.load 46 (Go.Operand.tmp 78), type := 46, pos := "law.go:131", after := #[{ on := 11, ground := Go.Ground.data }, { on := 15, ground := Go.Ground.gcOnly Go.Departure.lateStores }], guard := none }) (v := ?vv13) rfl (by kernel_rfl) (by kernel_rfl) (by kernel_rfl) (fun _ _ _ h => h) (Or.inl ⟨by rfl, ?hy13⟩) (by assumption) ?rr13
                case hy13 => intro w hSw; (try dsimp only at hSw); go_simp; all_goals with_reducible rfl
                try simp only [Act.put, List.setIfInBounds_toArray, List.set_cons_zero, List.set_cons_succ]
                refine wpAnyH_ready (rs := [13, 14]) (by kernel_rfl) (by simp) ?_
                refine AllReadyH.cons (i := 13) (o := { dst := some 11, op := Go.Op.alloc 46, type := 0, pos := "law.go:131", after := #[], guard := none }) rfl (fun K hK => ?_) (AllReadyH.cons (i := 14) (o := { dst := some 12, op := Go.Op.alloc 46, type := 0, pos := "law.go:131", after := #[], guard := none }) rfl (fun K hK => ?_) AllReadyH.nil)
                · go_simp
                  refine hK.out _ _ ?_ (fun hH1 => ?_)
                  · exact ⟨cell_old hH0.1, cell_old hH0.2.1, cell_old hH0.2.2.1, cell_old hH0.2.2.2.1, cell_old hH0.2.2.2.2.1, cell_old hH0.2.2.2.2.2.1, cell_old hH0.2.2.2.2.2.2.1, cell_old hH0.2.2.2.2.2.2.2.1, cell_old hH0.2.2.2.2.2.2.2.2.1, cell_old hH0.2.2.2.2.2.2.2.2.2.1, cell_old hH0.2.2.2.2.2.2.2.2.2.2.1, cell_old hH0.2.2.2.2.2.2.2.2.2.2.2.1, cell_old hH0.2.2.2.2.2.2.2.2.2.2.2.2.1, cell_old hH0.2.2.2.2.2.2.2.2.2.2.2.2.2.1, cell_old hH0.2.2.2.2.2.2.2.2.2.2.2.2.2.2⟩
                  clear hK K
                  try simp only [Act.put, List.setIfInBounds_toArray, List.set_cons_zero, List.set_cons_succ]
                  refine wpAnyH_ready (rs := [14]) (by kernel_rfl) (by simp) ?_
                  refine AllReadyH.cons (i := 14) (o := { dst := some 12, op := Go.Op.alloc 46, type := 0, pos := "law.go:131", after := #[], guard := none }) rfl (fun K hK => ?_) AllReadyH.nil
                  go_simp
                  refine hK.out _ _ ?_ (fun hH2 => ?_)
                  · exact ⟨cell_old hH1.1, cell_old hH1.2.1, cell_old hH1.2.2.1, cell_old hH1.2.2.2.1, cell_old hH1.2.2.2.2.1, cell_old hH1.2.2.2.2.2.1, cell_old hH1.2.2.2.2.2.2.1, cell_old hH1.2.2.2.2.2.2.2.1, cell_old hH1.2.2.2.2.2.2.2.2.1, cell_old hH1.2.2.2.2.2.2.2.2.2.1, cell_old hH1.2.2.2.2.2.2.2.2.2.2.1, cell_old hH1.2.2.2.2.2.2.2.2.2.2.2.1, cell_old hH1.2.2.2.2.2.2.2.2.2.2.2.2.1, cell_old hH1.2.2.2.2.2.2.2.2.2.2.2.2.2.1, cell_old hH1.2.2.2.2.2.2.2.2.2.2.2.2.2.2⟩
                  clear hK K
                  try simp only [Act.put, List.setIfInBounds_toArray, List.set_cons_zero, List.set_cons_succ]
                  refine wpAnyH_ready (rs := [15]) (by kernel_rfl) (by simp) ?_
                  refine AllReadyH.cons (i := 15) (o := { dst := none, op := Go.Op.store 46 (Go.Operand.tmp 11) (Go.Operand.tmp 74), type := 0, pos := "law.go:131", after := #[{ on := 13, ground := Go.Ground.data }, { on := 7, ground := Go.Ground.data }, { on := 0, ground := Go.Ground.phase }, { on := 1, ground := Go.Ground.phase }, { on := 2, ground := Go.Ground.phase }, { on := 3, ground := Go.Ground.phase }, { on := 4, ground := Go.Ground.phase }, { on := 5, ground := Go.Ground.phase }, { on := 6, ground := Go.Ground.phase }, { on := 7, ground := Go.Ground.phase }, { on := 8, ground := Go.Ground.textOnly Go.Departure.lateStores }, { on := 9, ground := Go.Ground.textOnly Go.Departure.lateStores }, { on := 10, ground := Go.Ground.textOnly Go.Departure.lateStores }, { on := 11, ground := Go.Ground.textOnly Go.Departure.lateStores }, { on := 12, ground := Go.Ground.textOnly Go.Departure.lateStores }, { on := 13, ground := Go.Ground.phase }, { on := 14, ground := Go.Ground.phase }], guard := none }) rfl (fun K hK => ?_) AllReadyH.nil
                  go_simp
                  refine hK.out _ _ ?_ (fun hH3 => ?_)
                  · exact ⟨two_old x0, two_old g0, two_old lc, two_old a0, two_old a1, two_old a2, two_old a3, two_old a4, two_old a5, two_old b0, two_old b1, two_old b2', two_old b3, two_old b4, two_old b5⟩
                  clear hK K
                  try simp only [Act.put, List.setIfInBounds_toArray, List.set_cons_zero, List.set_cons_succ]
                  refine wpAnyH_ready (rs := [16]) (by kernel_rfl) (by simp) ?_
                  refine AllReadyH.cons (i := 16) (o := { dst := none, op := Go.Op.store 46 (Go.Operand.tmp 12) (Go.Operand.tmp 79), type := 0, pos := "law.go:131", after := #[{ on := 14, ground := Go.Ground.data }, { on := 12, ground := Go.Ground.data }, { on := 15, ground := Go.Ground.chain }, { on := 0, ground := Go.Ground.phase }, { on := 1, ground := Go.Ground.phase }, { on := 2, ground := Go.Ground.phase }, { on := 3, ground := Go.Ground.phase }, { on := 4, ground := Go.Ground.phase }, { on := 5, ground := Go.Ground.phase }, { on := 6, ground := Go.Ground.phase }, { on := 7, ground := Go.Ground.phase }, { on := 8, ground := Go.Ground.phase }, { on := 9, ground := Go.Ground.phase }, { on := 10, ground := Go.Ground.phase }, { on := 11, ground := Go.Ground.phase }, { on := 12, ground := Go.Ground.phase }, { on := 13, ground := Go.Ground.phase }, { on := 14, ground := Go.Ground.phase }, { on := 15, ground := Go.Ground.phase }], guard := none }) rfl (fun K hK => ?_) AllReadyH.nil
                  go_simp
                  refine hK.out _ _ ?_ (fun hH4 => ?_)
                  · exact ⟨two_old x0, two_old g0, two_old lc, two_old a0, two_old a1, two_old a2, two_old a3, two_old a4, two_old a5, two_old b0, two_old b1, two_old b2', two_old b3, two_old b4, two_old b5⟩
                  clear hK K
                  try simp only [Act.put, List.setIfInBounds_toArray, List.set_cons_zero, List.set_cons_succ]
                  refine wpAnyH_done (by kernel_rfl) ?_ _
                  obtain ⟨W, hW⟩ : ∃ W, W = ((wo.alloc (.cells #[.int .i64 o.cls, .int .i64 o.kind, .slice S o.slots.length ds, .string o.text, .int .i64 o.bits, .int .i64 o.hash] 46)).alloc (.cells #[.int .i64 z, .int .i64 o.kind, .slice S2 o.slots.length ds2, .string o.text, .int .i64 o.bits, .int .i64 o.hash] 46)).drew := ⟨_, rfl⟩
                  have hB : Below wo.heap.size wo W := by rw [hW]; exact ((below_alloc wo _).alloc (by simp) _).drew
                  have hL1 : Lies W wo.heap.size 46 #[.int .i64 o.cls, .int .i64 o.kind, .slice S o.slots.length ds, .string o.text, .int .i64 o.bits, .int .i64 o.hash] := by rw [hW]; exact ((Lies.new wo 46 _).alloc _).drew
                  have hL2 : Lies W (wo.heap.size + 1) 46 #[.int .i64 z, .int .i64 o.kind, .slice S2 o.slots.length ds2, .string o.text, .int .i64 o.bits, .int .i64 o.hash] := by
                    rw [hW]
                    have := (Lies.new (wo.alloc (.cells #[.int .i64 o.cls, .int .i64 o.kind, .slice S o.slots.length ds, .string o.text, .int .i64 o.bits, .int .i64 o.hash] 46)) 46 #[.int .i64 z, .int .i64 o.kind, .slice S2 o.slots.length ds2, .string o.text, .int .i64 o.bits, .int .i64 o.hash]).drew
                    simpa using this
                  rw [← hW]
                  have e0 := hL1.cell 0
                  have f0 := hL2.cell 0
                  have e1 := hL1.cell 1
                  have f1 := hL2.cell 1
                  have e2 := hL1.cell 2
                  have f2 := hL2.cell 2
                  have e3 := hL1.cell 3
                  have f3 := hL2.cell 3
                  have e4 := hL1.cell 4
                  have f4 := hL2.cell 4
                  have e5 := hL1.cell 5
                  have f5 := hL2.cell 5
                  simp only [List.getElem?_toArray, List.getElem?_cons_zero, List.getElem?_cons_succ] at e0 e1 e2 e3 e4 e5 f0 f1 f2 f3 f4 f5
                  have X6 := hid (HX.out.later hB)
                  have G6 := hid (HG.out.later hB)
                  have HW6 := hid (HW.out.trans (hB.mono HW.out.size))
                  clear hB hL1 hL2 hW x0 x1 x2 g0 g1 g2 lc a0 a1 a2 a3 a4 a5 b0 b1 b2' b3 b4 b5
                  go_wp2_with fail
                  go_roundw
                  case rel => exact ⟨j + 1, by omega, by go_num, X6.out, G6.out, HW6.out⟩
                  case measure => simp [intOf]; omega
                · go_simp
                  refine hK.out _ _ ?_ (fun hH1 => ?_)
                  · exact ⟨cell_old hH0.1, cell_old hH0.2.1, cell_old hH0.2.2.1, cell_old hH0.2.2.2.1, cell_old hH0.2.2.2.2.1, cell_old hH0.2.2.2.2.2.1, cell_old hH0.2.2.2.2.2.2.1, cell_old hH0.2.2.2.2.2.2.2.1, cell_old hH0.2.2.2.2.2.2.2.2.1, cell_old hH0.2.2.2.2.2.2.2.2.2.1, cell_old hH0.2.2.2.2.2.2.2.2.2.2.1, cell_old hH0.2.2.2.2.2.2.2.2.2.2.2.1, cell_old hH0.2.2.2.2.2.2.2.2.2.2.2.2.1, cell_old hH0.2.2.2.2.2.2.2.2.2.2.2.2.2.1, cell_old hH0.2.2.2.2.2.2.2.2.2.2.2.2.2.2⟩
                  clear hK K
                  try simp only [Act.put, List.setIfInBounds_toArray, List.set_cons_zero, List.set_cons_succ]
                  refine wpAnyH_ready (rs := [13]) (by kernel_rfl) (by simp) ?_
                  refine AllReadyH.cons (i := 13) (o := { dst := some 11, op := Go.Op.alloc 46, type := 0, pos := "law.go:131", after := #[], guard := none }) rfl (fun K hK => ?_) AllReadyH.nil
                  go_simp
                  refine hK.out _ _ ?_ (fun hH2 => ?_)
                  · exact ⟨cell_old hH1.1, cell_old hH1.2.1, cell_old hH1.2.2.1, cell_old hH1.2.2.2.1, cell_old hH1.2.2.2.2.1, cell_old hH1.2.2.2.2.2.1, cell_old hH1.2.2.2.2.2.2.1, cell_old hH1.2.2.2.2.2.2.2.1, cell_old hH1.2.2.2.2.2.2.2.2.1, cell_old hH1.2.2.2.2.2.2.2.2.2.1, cell_old hH1.2.2.2.2.2.2.2.2.2.2.1, cell_old hH1.2.2.2.2.2.2.2.2.2.2.2.1, cell_old hH1.2.2.2.2.2.2.2.2.2.2.2.2.1, cell_old hH1.2.2.2.2.2.2.2.2.2.2.2.2.2.1, cell_old hH1.2.2.2.2.2.2.2.2.2.2.2.2.2.2⟩
                  clear hK K
                  try simp only [Act.put, List.setIfInBounds_toArray, List.set_cons_zero, List.set_cons_succ]
                  refine wpAnyH_ready (rs := [15]) (by kernel_rfl) (by simp) ?_
                  refine AllReadyH.cons (i := 15) (o := { dst := none, op := Go.Op.store 46 (Go.Operand.tmp 11) (Go.Operand.tmp 74), type := 0, pos := "law.go:131", after := #[{ on := 13, ground := Go.Ground.data }, { on := 7, ground := Go.Ground.data }, { on := 0, ground := Go.Ground.phase }, { on := 1, ground := Go.Ground.phase }, { on := 2, ground := Go.Ground.phase }, { on := 3, ground := Go.Ground.phase }, { on := 4, ground := Go.Ground.phase }, { on := 5, ground := Go.Ground.phase }, { on := 6, ground := Go.Ground.phase }, { on := 7, ground := Go.Ground.phase }, { on := 8, ground := Go.Ground.textOnly Go.Departure.lateStores }, { on := 9, ground := Go.Ground.textOnly Go.Departure.lateStores }, { on := 10, ground := Go.Ground.textOnly Go.Departure.lateStores }, { on := 11, ground := Go.Ground.textOnly Go.Departure.lateStores }, { on := 12, ground := Go.Ground.textOnly Go.Departure.lateStores }, { on := 13, ground := Go.Ground.phase }, { on := 14, ground := Go.Ground.phase }], guard := none }) rfl (fun K hK => ?_) AllReadyH.nil
                  go_simp
                  refine hK.out _ _ ?_ (fun hH3 => ?_)
                  · exact ⟨two_old x0, two_old g0, two_old lc, two_old a0, two_old a1, two_old a2, two_old a3, two_old a4, two_old a5, two_old b0, two_old b1, two_old b2', two_old b3, two_old b4, two_old b5⟩
                  clear hK K
                  try simp only [Act.put, List.setIfInBounds_toArray, List.set_cons_zero, List.set_cons_succ]
                  refine wpAnyH_ready (rs := [16]) (by kernel_rfl) (by simp) ?_
                  refine AllReadyH.cons (i := 16) (o := { dst := none, op := Go.Op.store 46 (Go.Operand.tmp 12) (Go.Operand.tmp 79), type := 0, pos := "law.go:131", after := #[{ on := 14, ground := Go.Ground.data }, { on := 12, ground := Go.Ground.data }, { on := 15, ground := Go.Ground.chain }, { on := 0, ground := Go.Ground.phase }, { on := 1, ground := Go.Ground.phase }, { on := 2, ground := Go.Ground.phase }, { on := 3, ground := Go.Ground.phase }, { on := 4, ground := Go.Ground.phase }, { on := 5, ground := Go.Ground.phase }, { on := 6, ground := Go.Ground.phase }, { on := 7, ground := Go.Ground.phase }, { on := 8, ground := Go.Ground.phase }, { on := 9, ground := Go.Ground.phase }, { on := 10, ground := Go.Ground.phase }, { on := 11, ground := Go.Ground.phase }, { on := 12, ground := Go.Ground.phase }, { on := 13, ground := Go.Ground.phase }, { on := 14, ground := Go.Ground.phase }, { on := 15, ground := Go.Ground.phase }], guard := none }) rfl (fun K hK => ?_) AllReadyH.nil
                  go_simp
                  refine hK.out _ _ ?_ (fun hH4 => ?_)
                  · exact ⟨two_old x0, two_old g0, two_old lc, two_old a0, two_old a1, two_old a2, two_old a3, two_old a4, two_old a5, two_old b0, two_old b1, two_old b2', two_old b3, two_old b4, two_old b5⟩
                  clear hK K
                  try simp only [Act.put, List.setIfInBounds_toArray, List.set_cons_zero, List.set_cons_succ]
                  refine wpAnyH_done (by kernel_rfl) ?_ _
                  obtain ⟨W, hW⟩ : ∃ W, W = ((wo.alloc (.cells #[.int .i64 z, .int .i64 o.kind, .slice S2 o.slots.length ds2, .string o.text, .int .i64 o.bits, .int .i64 o.hash] 46)).alloc (.cells #[.int .i64 o.cls, .int .i64 o.kind, .slice S o.slots.length ds, .string o.text, .int .i64 o.bits, .int .i64 o.hash] 46)).drew := ⟨_, rfl⟩
                  have hB : Below wo.heap.size wo W := by rw [hW]; exact ((below_alloc wo _).alloc (by simp) _).drew
                  have hL1 : Lies W wo.heap.size 46 #[.int .i64 z, .int .i64 o.kind, .slice S2 o.slots.length ds2, .string o.text, .int .i64 o.bits, .int .i64 o.hash] := by rw [hW]; exact ((Lies.new wo 46 _).alloc _).drew
                  have hL2 : Lies W (wo.heap.size + 1) 46 #[.int .i64 o.cls, .int .i64 o.kind, .slice S o.slots.length ds, .string o.text, .int .i64 o.bits, .int .i64 o.hash] := by
                    rw [hW]
                    have := (Lies.new (wo.alloc (.cells #[.int .i64 z, .int .i64 o.kind, .slice S2 o.slots.length ds2, .string o.text, .int .i64 o.bits, .int .i64 o.hash] 46)) 46 #[.int .i64 o.cls, .int .i64 o.kind, .slice S o.slots.length ds, .string o.text, .int .i64 o.bits, .int .i64 o.hash]).drew
                    simpa using this
                  rw [← hW]
                  have e0 := hL1.cell 0
                  have f0 := hL2.cell 0
                  have e1 := hL1.cell 1
                  have f1 := hL2.cell 1
                  have e2 := hL1.cell 2
                  have f2 := hL2.cell 2
                  have e3 := hL1.cell 3
                  have f3 := hL2.cell 3
                  have e4 := hL1.cell 4
                  have f4 := hL2.cell 4
                  have e5 := hL1.cell 5
                  have f5 := hL2.cell 5
                  simp only [List.getElem?_toArray, List.getElem?_cons_zero, List.getElem?_cons_succ] at e0 e1 e2 e3 e4 e5 f0 f1 f2 f3 f4 f5
                  have X6 := hid (HX.out.later hB)
                  have G6 := hid (HG.out.later hB)
                  have HW6 := hid (HW.out.trans (hB.mono HW.out.size))
                  clear hB hL1 hL2 hW x0 x1 x2 g0 g1 g2 lc a0 a1 a2 a3 a4 a5 b0 b1 b2' b3 b4 b5
                  go_wp2_with fail
                  go_roundw
                  case rel => exact ⟨j + 1, by omega, by go_num, X6.out, G6.out, HW6.out⟩
                  case measure => simp [intOf]; omega
              · obtain rfl : j = L.length := by omega
                go_wp2_with fail
                go_ret
                exact ⟨rfl, then_b HB5.out HW.out⟩
          · have HLL := hid (show liL h rs = [] by unfold liL; rw [if_neg he])
            have HC0 := hid (coH_no he)
            have hne : (liE h rs != 0) = true := by simpa using he
            obtain ⟨en, hen⟩ : ∃ en, en = liE h rs := ⟨_, rfl⟩
            rw [← hen] at hne
            have HEN := hid hen
            clear hen he
            go_wp2_with fail
            refine (rlive_any h rs A R c d _ O3.out HF.out R3.out hl).mono ?_
            rintro e w4 ⟨A4, c4, rfl, -, -, -, hb⟩
            rw [← HEN.out, HLL.out]
            have HB4 := hid (HB3.out.trans (hb.mono HB3.out.size))
            have X4 := hid (X3.out.later hb)
            have O4 := hid (O3.out.below hb)
            have R4 := hid (R3.out.below hb)
            clear x0 x1 x2
            clear hb
            have x0 := X4.out.cell 0
            have x1 := X4.out.cell 1
            have x2 := X4.out.cell 2
            simp only [List.getElem?_toArray, List.getElem?_cons_zero, List.getElem?_cons_succ] at x0 x1 x2
            go_wp2_with fail
            refine (compact_any h rs A R c d _ O4.out HF.out R4.out (by omega)).mono ?_
            rintro e w5 ⟨A5, c5, P5, d5, rfl, -, -, hb⟩
            rw [← HEN.out, HC0.out]
            have HAL := hid (below_alloc w5 (.cells #[Value.slice A5 zeroH.objs.length c5, Value.int .i64 zeroH.cap, Value.int .i64 zeroH.last] 24))
            have HB5 := hid ((HB4.out.trans (hb.mono HB4.out.size)).trans (HAL.out.mono (Nat.le_trans HB4.out.size hb.size)))
            have X5 := hid ((X4.out.later hb).later HAL.out)
            have O5 := hid ((O4.out.below hb).below HAL.out)
            have R5 := hid ((R4.out.below hb).below HAL.out)
            have G5 := hid (Lies.new w5 24 #[Value.slice A5 zeroH.objs.length c5, Value.int .i64 zeroH.cap, Value.int .i64 zeroH.last])
            clear x0 x1 x2
            clear hb
            clear HAL
            have x0 := X5.out.cell 0
            have x1 := X5.out.cell 1
            have x2 := X5.out.cell 2
            have g0 := G5.out.cell 0
            have g1 := G5.out.cell 1
            have g2 := G5.out.cell 2
            simp only [List.getElem?_toArray, List.getElem?_cons_zero, List.getElem?_cons_succ] at x0 x1 x2 g0 g1 g2
            have hz0 : zeroH.objs.length = 0 := rfl
            go_wp2_with fail
            go_loopw [10] (fun i wr => i = .int .i64 0 ∧ Below (w5.alloc (.cells #[Value.slice A5 zeroH.objs.length c5, Value.int .i64 zeroH.cap, Value.int .i64 zeroH.last] 24)).heap.size (w5.alloc (.cells #[Value.slice A5 zeroH.objs.length c5, Value.int .i64 zeroH.cap, Value.int .i64 zeroH.last] 24)) wr) (fun _ _ => 0)
            case atStart => exact ⟨rfl, Below.refl _ _⟩
            case round =>
              obtain ⟨rfl, hbw⟩ := hrel
              have HW := hid hbw
              clear hbw x0 x1 x2 g0 g1 g2
              go_wp2_with fail
              go_ret
              exact ⟨rfl, then_b HB5.out HW.out⟩
end Go.Proofs.Ytelljlmjhnjpiaa
