/- CanonRoots walked: whatever heap with roots, it answers true. -/
import Derived.Test.YtododpdkbdndoaaFX6
import Derived.Test.YtododpdkbdndoaaR
import Derived.Test.YtododpdkbdndoaaN
import Derived.Test.YtododpdkbdndoaaMY
namespace Go.Proofs.Ytododpdkbdndoaa
open Go.RowKit
set_option maxRecDepth 100000
theorem refI_lt6 (n : Nat) (v : Int) : (refI n v < 0) ↔ refB n v = false := by
  unfold refI
  cases hr : refB n v
  · simp
  · have := refB_no hr
    simp only [if_true, reduceCtorEq, iff_false]; omega
theorem any_step (f : Int → Bool) (l : List Int) (k : Nat) (hk : k < l.length) : (l.take (k + 1)).any f = ((l.take k).any f || f l[k]) := by
  rw [List.take_succ_eq_append_getElem hk, List.any_append]; simp
theorem cnL_at {h : Hp} {rs : List Int} (e : liE h rs = 0) {k : Nat} (hk : k < rs.length) : (cnL h rs)[k]? = some (cnV h (ordN h rs) rs[k]) := by
  rw [cnL_yes e, List.getElem?_map, List.getElem?_eq_getElem hk]; rfl
theorem cnL_len {h : Hp} {rs : List Int} (e : liE h rs = 0) : (cnL h rs).length = rs.length := by rw [cnL_yes e, List.length_map]
theorem first_at {h : Hp} {rs : List Int} {k : Nat} (hk : k < rs.length) (hn : (rs.take k).any (refB h.objs.length) = false) (hr : refB h.objs.length rs[k] = true) : cnV h (ordN h rs) rs[k] = 0 := by
  have e : rs = rs.take k ++ rs[k] :: rs.drop (k + 1) := by rw [← List.drop_eq_getElem_cons hk, List.take_append_drop]
  have := cn_first (h := h) (l := rs.take k) (m := rs.drop (k + 1)) (v := rs[k]) (fun u hu => by
    have := List.any_eq_false.1 hn u hu
    simpa using this) hr
  rw [← e] at this
  exact this
theorem ref_told {h : Hp} {rs : List Int} (e : liE h rs = 0) {v : Int} (hv : v ∈ rs) (hr : refB h.objs.length v = true) : refB (cnH h rs).objs.length (cnV h (ordN h rs) v) = true := by
  rw [(cn_has e (meet_root e hv)).2]; exact hr
theorem none_told {h : Hp} (e : liE h [] = 0) : (cnH h []).objs.length = 0 ∧ cnL h [] = [] := by
  refine ⟨?_, ?_⟩
  · rw [cn_len e, ordN_nil]; rfl
  · rw [cnL_yes e]; rfl
theorem cnh_fit (h : Hp) (rs : List Int) : (cnH h rs).Fit := by
  obtain ⟨h1, h2⟩ := cn_fit h rs
  exact ⟨by omega, fun o ho => by have := h2 o ho; show o.slots.length ≤ _; omega⟩
theorem cnl_le (h : Hp) (rs : List Int) : (cnL h rs).length ≤ rs.length := by
  unfold cnL; split <;> simp
set_option maxHeartbeats 3000000 in
theorem croots_any (h : Hp) (rs : List Int) (A P : Option Addr) (c dp : Nat) (w : World) (hs0 : ObsR w A h.objs) (ft0 : h.Fit) (hr0 : IntsR w P rs) (hl0 : rs.length ≤ 9223372036854775807) :
    Calls Try.prog 14 #[.agg #[.slice A h.objs.length c, .int .i64 h.cap, .int .i64 h.last, .slice P rs.length dp]] w fun e w' => e = .returned (.bool true) ∧ Below w.heap.size w w' := by
  obtain ⟨w0, hw0⟩ : ∃ w0, w0 = (w.alloc (.cells #[.slice A h.objs.length c, .int .i64 h.cap, .int .i64 h.last, .slice P rs.length dp] 53)) := ⟨_, rfl⟩
  have HB0 : Hid (Below w.heap.size w w0) := by show Below _ _ _; rw [hw0]; exact below_alloc w _
  have X0 : Hid (Lies w0 (w.heap.size) 53 #[.slice A h.objs.length c, .int .i64 h.cap, .int .i64 h.last, .slice P rs.length dp]) := by
    show Lies _ _ _ _
    rw [hw0]
    have := Lies.new w 53 #[.slice A h.objs.length c, .int .i64 h.cap, .int .i64 h.last, .slice P rs.length dp]
    simpa using this
  have OX0 := hid (hs0.below HB0.out)
  have RX0 := hid (hr0.below HB0.out)
  have HFX := hid ft0
  have hfl0 := ft0.1
  clear hs0 ft0 hr0
  go_enter Try.func14, Try.ntmps14
  go_upto_region 1 with fail
  rw [← hw0]
  clear hw0
  have x0 := X0.out.cell 0
  have x1 := X0.out.cell 1
  have x2 := X0.out.cell 2
  have x3 := X0.out.cell 3
  simp only [List.getElem?_toArray, List.getElem?_cons_zero, List.getElem?_cons_succ] at x0 x1 x2 x3
  go_wp2_with fail
  refine (fixed6_any _).mono ?_
  rintro e w1 ⟨rfl, hb⟩
  have HB1 := hid (HB0.out.trans (hb.mono HB0.out.size))
  have X1 := hid (X0.out.later hb)
  have OX1 := hid (OX0.out.below hb)
  have RX1 := hid (RX0.out.below hb)
  clear x0 x1 x2 x3
  clear hb
  have x0 := X1.out.cell 0
  have x1 := X1.out.cell 1
  have x2 := X1.out.cell 2
  have x3 := X1.out.cell 3
  simp only [List.getElem?_toArray, List.getElem?_cons_zero, List.getElem?_cons_succ] at x0 x1 x2 x3
  go_wp2_with fail
  refine (small_ok h A c _ OX1.out HFX.out).mono ?_
  rintro e w2 ⟨sm, rfl, hb⟩
  have HB2 := hid (HB1.out.trans (hb.mono HB1.out.size))
  have X2 := hid (X1.out.later hb)
  have OX2 := hid (OX1.out.below hb)
  have RX2 := hid (RX1.out.below hb)
  clear x0 x1 x2 x3
  clear hb
  have x0 := X2.out.cell 0
  have x1 := X2.out.cell 1
  have x2 := X2.out.cell 2
  have x3 := X2.out.cell 3
  simp only [List.getElem?_toArray, List.getElem?_cons_zero, List.getElem?_cons_succ] at x0 x1 x2 x3
  cases sm
  · go_wp2_with fail
    refine (fixed6_any _).mono ?_
    rintro e w3 ⟨rfl, hb⟩
    have HB3 := hid (HB2.out.trans (hb.mono HB2.out.size))
    have X3 := hid (X2.out.later hb)
    have OX3 := hid (OX2.out.below hb)
    have RX3 := hid (RX2.out.below hb)
    clear x0 x1 x2 x3
    clear hb
    have x0 := X3.out.cell 0
    have x1 := X3.out.cell 1
    have x2 := X3.out.cell 2
    have x3 := X3.out.cell 3
    simp only [List.getElem?_toArray, List.getElem?_cons_zero, List.getElem?_cons_succ] at x0 x1 x2 x3
    go_wp2_with fail
    go_ret
    exact ⟨rfl, HB3.out⟩
  · go_wp2_with fail
    refine (rmay_any h A c _ OX2.out HFX.out).mono ?_
    rintro e w3 ⟨rfl, hb⟩
    have HB3 := hid (HB2.out.trans (hb.mono HB2.out.size))
    have X3 := hid (X2.out.later hb)
    have OX3 := hid (OX2.out.below hb)
    have RX3 := hid (RX2.out.below hb)
    clear x0 x1 x2 x3
    clear hb
    have x0 := X3.out.cell 0
    have x1 := X3.out.cell 1
    have x2 := X3.out.cell 2
    have x3 := X3.out.cell 3
    simp only [List.getElem?_toArray, List.getElem?_cons_zero, List.getElem?_cons_succ] at x0 x1 x2 x3
    cases hmX : mayB h
    · go_wp2_with fail
      refine (fixed6_any _).mono ?_
      rintro e w4 ⟨rfl, hb⟩
      have HB4 := hid (HB3.out.trans (hb.mono HB3.out.size))
      have X4 := hid (X3.out.later hb)
      have OX4 := hid (OX3.out.below hb)
      have RX4 := hid (RX3.out.below hb)
      clear x0 x1 x2 x3
      clear hb
      have x0 := X4.out.cell 0
      have x1 := X4.out.cell 1
      have x2 := X4.out.cell 2
      have x3 := X4.out.cell 3
      simp only [List.getElem?_toArray, List.getElem?_cons_zero, List.getElem?_cons_succ] at x0 x1 x2 x3
      go_wp2_with fail
      go_ret
      exact ⟨rfl, HB4.out⟩
    · have HMX := hid hmX
      clear hmX
      by_cases q1 : 40 < h.objs.length
      · go_wp2_with fail
        refine (fixed6_any _).mono ?_
        rintro e w4 ⟨rfl, hb⟩
        have HB4 := hid (HB3.out.trans (hb.mono HB3.out.size))
        have X4 := hid (X3.out.later hb)
        have OX4 := hid (OX3.out.below hb)
        have RX4 := hid (RX3.out.below hb)
        clear x0 x1 x2 x3
        clear hb
        have x0 := X4.out.cell 0
        have x1 := X4.out.cell 1
        have x2 := X4.out.cell 2
        have x3 := X4.out.cell 3
        simp only [List.getElem?_toArray, List.getElem?_cons_zero, List.getElem?_cons_succ] at x0 x1 x2 x3
        go_wp2_with fail
        go_ret
        exact ⟨rfl, HB4.out⟩
      · by_cases q2 : 100 < rs.length
        · go_wp2_with fail
          refine (fixed6_any _).mono ?_
          rintro e w4 ⟨rfl, hb⟩
          have HB4 := hid (HB3.out.trans (hb.mono HB3.out.size))
          have X4 := hid (X3.out.later hb)
          have OX4 := hid (OX3.out.below hb)
          have RX4 := hid (RX3.out.below hb)
          clear x0 x1 x2 x3
          clear hb
          have x0 := X4.out.cell 0
          have x1 := X4.out.cell 1
          have x2 := X4.out.cell 2
          have x3 := X4.out.cell 3
          simp only [List.getElem?_toArray, List.getElem?_cons_zero, List.getElem?_cons_succ] at x0 x1 x2 x3
          go_wp2_with fail
          go_ret
          exact ⟨rfl, HB4.out⟩
        · have HE0 := hid (none_live HMX.out).1
          obtain ⟨k0, hk0⟩ : ∃ k0, k0 = cnH h [] := ⟨_, rfl⟩
          have HZ0 : Hid (k0.objs.length = 0) := by show _ = _; rw [hk0]; exact (none_told HE0.out).1
          have HC0 := hid hk0.symm
          clear hk0
          go_wp2_with fail
          refine (of6 HC0.out (none_told HE0.out).2 HE0.out A none c 0 _ OX3.out HFX.out (fun hn => by simp at hn) (by simp)).mono ?_
          rintro e w4 ⟨A4, c4, P4, d4, rfl, ho, hi, hb⟩
          have HAL := hid (below_alloc w4 (.cells #[Value.slice A4 k0.objs.length c4, Value.int .i64 k0.cap, Value.int .i64 k0.last] 24))
          have HB4 := hid ((HB3.out.trans (hb.mono HB3.out.size)).trans (HAL.out.mono (Nat.le_trans HB3.out.size hb.size)))
          have X4 := hid ((X3.out.later hb).later HAL.out)
          have OX4 := hid ((OX3.out.below hb).below HAL.out)
          have RX4 := hid ((RX3.out.below hb).below HAL.out)
          have G4 := hid (Lies.new w4 24 #[Value.slice A4 k0.objs.length c4, Value.int .i64 k0.cap, Value.int .i64 k0.last])
          clear x0 x1 x2 x3
          clear hb
          clear ho hi HAL
          have x0 := X4.out.cell 0
          have x1 := X4.out.cell 1
          have x2 := X4.out.cell 2
          have x3 := X4.out.cell 3
          have g0 := G4.out.cell 0
          have g1 := G4.out.cell 1
          have g2 := G4.out.cell 2
          simp only [List.getElem?_toArray, List.getElem?_cons_zero, List.getElem?_cons_succ] at x0 x1 x2 x3 g0 g1 g2
          have KF := hid (cnh_fit h rs)
          have hkl := cnl_le h rs
          obtain ⟨k, hk⟩ : ∃ k, k = cnH h rs := ⟨_, rfl⟩
          obtain ⟨L, hL⟩ : ∃ L, L = cnL h rs := ⟨_, rfl⟩
          rw [← hk] at KF
          rw [← hL] at hkl
          have HQk := hid hk
          have HQL := hid hL
          clear hk hL
          obtain ⟨en, hen⟩ : ∃ en, en = liE h rs := ⟨_, rfl⟩
          have HQen := hid hen
          clear hen
          go_wp2_with fail
          refine (of_any h rs A P c dp _ OX4.out HFX.out RX4.out (by omega)).mono ?_
          rintro e w5 ⟨A5, c5, P5, d5, rfl, ho, hi, hb⟩
          rw [← HQen.out, ← HQk.out, ← HQL.out]
          rw [← HQk.out] at ho
          rw [← HQL.out] at hi
          have HAL := hid (below_alloc w5 (.cells #[Value.slice A5 k.objs.length c5, Value.int .i64 k.cap, Value.int .i64 k.last] 24))
          have HB5 := hid ((HB4.out.trans (hb.mono HB4.out.size)).trans (HAL.out.mono (Nat.le_trans HB4.out.size hb.size)))
          have X5 := hid ((X4.out.later hb).later HAL.out)
          have G5 := hid ((G4.out.later hb).later HAL.out)
          have OX5 := hid ((OX4.out.below hb).below HAL.out)
          have RX5 := hid ((RX4.out.below hb).below HAL.out)
          have H5 := hid (Lies.new w5 24 #[Value.slice A5 k.objs.length c5, Value.int .i64 k.cap, Value.int .i64 k.last])
          have OL5 := hid (ho.below HAL.out)
          have LM5 := hid (hi.below HAL.out)
          clear x0 x1 x2 x3 g0 g1 g2
          clear hb
          clear ho hi HAL
          have x0 := X5.out.cell 0
          have x1 := X5.out.cell 1
          have x2 := X5.out.cell 2
          have x3 := X5.out.cell 3
          have g0 := G5.out.cell 0
          have g1 := G5.out.cell 1
          have g2 := G5.out.cell 2
          have u0 := H5.out.cell 0
          have u1 := H5.out.cell 1
          have u2 := H5.out.cell 2
          simp only [List.getElem?_toArray, List.getElem?_cons_zero, List.getElem?_cons_succ] at x0 x1 x2 x3 g0 g1 g2 u0 u1 u2
          have hz0 := HZ0.out
          have HLL : Hid (en = 0 → L.length = rs.length) := fun he => by rw [HQL.out]; exact cnL_len (by rw [← HQen.out]; exact he)
          by_cases he : en = 0
          · subst he
            have hll := HLL.out rfl
            go_wp2_with fail
            go_loopw [10, 9] (fun i s wr => ∃ k' : Nat, k' ≤ rs.length ∧ i = .int .i64 k' ∧ s = .bool ((rs.take k').any (refB h.objs.length)) ∧ Below (w5.alloc (.cells #[Value.slice A5 k.objs.length c5, Value.int .i64 k.cap, Value.int .i64 k.last] 24)).heap.size (w5.alloc (.cells #[Value.slice A5 k.objs.length c5, Value.int .i64 k.cap, Value.int .i64 k.last] 24)) wr) (fun i _ _ => rs.length - (intOf i).toNat)
            case atStart => exact ⟨0, Nat.zero_le _, rfl, rfl, Below.refl _ _⟩
            case round =>
              obtain ⟨k', hk', rfl, rfl, hbw⟩ := hrel
              rename World => wo
              have HW := hid hbw
              have HXo := hid (X5.out.later hbw)
              have HUo := hid (H5.out.later hbw)
              have HBo := hid (HB5.out.trans (hbw.mono HB5.out.size))
              clear hbw
              have x0 := HXo.out.cell 0
              have x1 := HXo.out.cell 1
              have x2 := HXo.out.cell 2
              have x3 := HXo.out.cell 3
              have u0 := HUo.out.cell 0
              have u1 := HUo.out.cell 1
              have u2 := HUo.out.cell 2
              simp only [List.getElem?_toArray, List.getElem?_cons_zero, List.getElem?_cons_succ] at x0 x1 x2 x3 u0 u1 u2
              by_cases hlt : k' < rs.length
              · obtain ⟨bl, ol, rfl, hbl, hcl⟩ := RX5.out (by omega)
                obtain ⟨bq, oq, hqq, hbq, hcq⟩ := LM5.out (by omega)
                rw [hqq]
                have rc := (HW.out.cell (p := ⟨bl, ol + k', none⟩) hbl).trans (hcl k' _ (List.getElem?_eq_getElem hlt))
                have HE : Hid (liE h rs = 0) := HQen.out.symm
                have lq := (HW.out.cell (p := ⟨bq, oq + k', none⟩) hbq).trans (hcq k' _ (by rw [HQL.out]; exact cnL_at HE.out hlt))
                have hst := any_step (refB h.objs.length) rs k' hlt
                have hmem := List.getElem_mem hlt
                have hfst := fun hn hr => first_at (h := h) hlt hn hr
                have htold := fun hr => ref_told HE.out hmem hr
                have hsm : refB h.objs.length rs[k'] = false → cnV h (ordN h rs) rs[k'] = rs[k'] := fun hr => cn_small hr
                rw [← HQk.out] at htold
                obtain ⟨v, hv⟩ : ∃ v, v = rs[k'] := ⟨_, rfl⟩
                rw [← hv] at rc lq hst hfst htold hsm
                obtain ⟨z, hz⟩ : ∃ z, z = cnV h (ordN h rs) v := ⟨_, rfl⟩
                rw [← hz] at lq hfst htold hsm
                obtain ⟨s, hs⟩ : ∃ s, s = (rs.take k').any (refB h.objs.length) := ⟨_, rfl⟩
                rw [← hs] at hst hfst ⊢
                have HST := hid hst
                have HFS := hid hfst
                have HTO := hid htold
                have HSM := hid hsm
                have HHS := hid hs
                clear hst hfst htold hsm hv hz hs hmem hcl hcq hqq hbl hbq
                cases hrv : refB h.objs.length v
                · have hzv := HSM.out hrv
                  rw [hzv] at lq
                  clear hzv
                  have hri : refI h.objs.length v = -1 := by unfold refI; rw [if_neg (by rw [hrv]; decide)]
                  have HSTk := hid HST.out
                  have HRI := hid hri
                  have HRV := hid hrv
                  clear hri hrv
                  go_wp2_with fail
                  refine wp_region_held_drew (S := (fun w' => w'.cell? ⟨w.heap.size, 0, none⟩ = some (.slice A h.objs.length c) ∧ w'.cell? ⟨w.heap.size, 1, none⟩ = some (.int .i64 h.cap) ∧ w'.cell? ⟨w.heap.size, 2, none⟩ = some (.int .i64 h.last) ∧ w'.cell? ⟨w.heap.size, 3, none⟩ = some (.slice (some ⟨bl, ol, none⟩) rs.length dp) ∧ w'.cell? ⟨bl, ol + k', none⟩ = some (.int .i64 v))) (by kernel_rfl) ?_ (fun hH0 => ?_)
                  · exact ⟨x0, x1, x2, x3, rc⟩
                  refine wpAnyH_take (i := 0) (oi := { dst := some 91, op := Go.Op.fieldAddr 53 (Go.Operand.tmp 1) 0, type := 0, pos := "law.go:108", after := #[], guard := none }) (v := ?vv1) rfl (by kernel_rfl) (by kernel_rfl) (by kernel_rfl) (fun _ _ _ h => h) (Or.inl ⟨by rfl, ?hy1⟩) (by assumption) ?rr1
                  case hy1 => intro w hSw; (try dsimp only at hSw); go_simp; all_goals with_reducible rfl
                  try simp only [Act.put, List.setIfInBounds_toArray, List.set_cons_zero, List.set_cons_succ]
                  refine wpAnyH_take (i := 1) (oi := { dst := some 92, op := Go.Op.load 24 (Go.Operand.tmp 91), type := 24, pos := "law.go:108", after := #[{ on := 0, ground := Go.Ground.data }], guard := none }) (v := ?vv2) rfl (by kernel_rfl) (by kernel_rfl) (by kernel_rfl) (fun _ _ _ h => h) (Or.inl ⟨by rfl, ?hy2⟩) (by assumption) ?rr2
                  case hy2 => intro w hSw; (try dsimp only at hSw); go_simp; all_goals with_reducible rfl
                  try simp only [Act.put, List.setIfInBounds_toArray, List.set_cons_zero, List.set_cons_succ]
                  refine wpAnyH_take (i := 2) (oi := { dst := some 93, op := Go.Op.fieldAddr 53 (Go.Operand.tmp 1) 1, type := 0, pos := "law.go:108", after := #[], guard := none }) (v := ?vv3) rfl (by kernel_rfl) (by kernel_rfl) (by kernel_rfl) (fun _ _ _ h => h) (Or.inl ⟨by rfl, ?hy3⟩) (by assumption) ?rr3
                  case hy3 => intro w hSw; (try dsimp only at hSw); go_simp; all_goals with_reducible rfl
                  try simp only [Act.put, List.setIfInBounds_toArray, List.set_cons_zero, List.set_cons_succ]
                  refine wpAnyH_take (i := 3) (oi := { dst := some 94, op := Go.Op.load 44 (Go.Operand.tmp 93), type := 44, pos := "law.go:108", after := #[{ on := 2, ground := Go.Ground.data }], guard := none }) (v := ?vv4) rfl (by kernel_rfl) (by kernel_rfl) (by kernel_rfl) (fun _ _ _ h => h) (Or.inl ⟨by rfl, ?hy4⟩) (by assumption) ?rr4
                  case hy4 => intro w hSw; (try dsimp only at hSw); go_simp; all_goals with_reducible rfl
                  try simp only [Act.put, List.setIfInBounds_toArray, List.set_cons_zero, List.set_cons_succ]
                  refine wpAnyH_take (i := 4) (oi := { dst := some 95, op := Go.Op.move (Go.Operand.tmp 10), type := 3, pos := "law.go:108", after := #[], guard := none }) (v := ?vv5) rfl (by kernel_rfl) (by kernel_rfl) (by kernel_rfl) (fun _ _ _ h => h) (Or.inl ⟨by rfl, ?hy5⟩) (by assumption) ?rr5
                  case hy5 => intro w hSw; (try dsimp only at hSw); go_simp; all_goals with_reducible rfl
                  try simp only [Act.put, List.setIfInBounds_toArray, List.set_cons_zero, List.set_cons_succ]
                  refine wpAnyH_take (i := 5) (oi := { dst := some 96, op := Go.Op.indexAddr 44 (Go.Operand.tmp 94) (Go.Operand.tmp 95), type := 0, pos := "law.go:108", after := #[{ on := 3, ground := Go.Ground.data }, { on := 4, ground := Go.Ground.data }], guard := none }) (v := ?vv6) rfl (by kernel_rfl) (by kernel_rfl) (by kernel_rfl) (fun _ _ _ h => h) (Or.inl ⟨by rfl, ?hy6⟩) (by assumption) ?rr6
                  case hy6 => intro w hSw; (try dsimp only at hSw); go_simp; all_goals with_reducible rfl
                  try simp only [Act.put, List.setIfInBounds_toArray, List.set_cons_zero, List.set_cons_succ]
                  refine wpAnyH_take (i := 6) (oi := { dst := some 97, op := Go.Op.load 3 (Go.Operand.tmp 96), type := 3, pos := "law.go:108", after := #[{ on := 5, ground := Go.Ground.data }], guard := none }) (v := ?vv7) rfl (by kernel_rfl) (by kernel_rfl) (by kernel_rfl) (fun _ _ _ h => h) (Or.inl ⟨by rfl, ?hy7⟩) (by assumption) ?rr7
                  case hy7 => intro w hSw; (try dsimp only at hSw); go_simp; all_goals with_reducible rfl
                  try simp only [Act.put, List.setIfInBounds_toArray, List.set_cons_zero, List.set_cons_succ]
                  refine wpAnyH_ready (rs := [7]) (by kernel_rfl) (by simp) ?_
                  refine AllReadyH.cons (i := 7) (o := { dst := some 98, op := Go.Op.call { callee := Go.Callee.value (Go.Operand.func 35), args := #[Go.Operand.tmp 92, Go.Operand.tmp 97], argTypes := #[24, 3] }, type := 3, pos := "law.go:108", after := #[{ on := 1, ground := Go.Ground.data }, { on := 6, ground := Go.Ground.data }], guard := none }) rfl (fun K hK => ?_) AllReadyH.nil
                  go_simp
                  go_at_call 35
                  refine (rref_any h v A c _).mono ?_
                  rintro e v1 ⟨rfl, hb⟩
                  rw [HRI.out]
                  have HV1 := hid (then_b (Below.refl _ wo).drew hb)
                  refine hK.out _ _ ?_ (fun hH1 => ?_)
                  · exact ⟨cell_later hb hH0.1, cell_later hb hH0.2.1, cell_later hb hH0.2.2.1, cell_later hb hH0.2.2.2.1, cell_later hb hH0.2.2.2.2⟩
                  clear hK K
                  try simp only [Act.put, List.setIfInBounds_toArray, List.set_cons_zero, List.set_cons_succ]
                  clear hb
                  refine wpAnyH_take (i := 8) (oi := { dst := some 99, op := Go.Op.binOp Go.BinOp.lss 3 (Go.Operand.tmp 98) (Go.Operand.const (Go.Value.int Go.IntKind.i64 0)) 3, type := 4, pos := "law.go:108", after := #[{ on := 7, ground := Go.Ground.data }], guard := none }) (v := ?vv8) rfl (by kernel_rfl) (by kernel_rfl) (by kernel_rfl) (fun _ _ _ h => h) (Or.inl ⟨by rfl, ?hy8⟩) (by assumption) ?rr8
                  case hy8 => intro w hSw; (try dsimp only at hSw); go_simp; all_goals with_reducible rfl
                  try simp only [Act.put, List.setIfInBounds_toArray, List.set_cons_zero, List.set_cons_succ]
                  refine wpAnyH_done (by kernel_rfl) ?_ _
                  go_wp2_with fail
                  replace x0 := cell_later HV1.out x0
                  replace x1 := cell_later HV1.out x1
                  replace x2 := cell_later HV1.out x2
                  replace x3 := cell_later HV1.out x3
                  replace u0 := cell_later HV1.out u0
                  replace u1 := cell_later HV1.out u1
                  replace u2 := cell_later HV1.out u2
                  replace rc := cell_later HV1.out rc
                  replace lq := cell_later HV1.out lq
                  refine wp_region_held_drew (S := (fun w' => w'.cell? ⟨w.heap.size, 0, none⟩ = some (.slice A h.objs.length c) ∧ w'.cell? ⟨w.heap.size, 1, none⟩ = some (.int .i64 h.cap) ∧ w'.cell? ⟨w.heap.size, 2, none⟩ = some (.int .i64 h.last) ∧ w'.cell? ⟨w.heap.size, 3, none⟩ = some (.slice (some ⟨bl, ol, none⟩) rs.length dp) ∧ w'.cell? ⟨bl, ol + k', none⟩ = some (.int .i64 v) ∧ w'.cell? ⟨bq, oq + k', none⟩ = some (.int .i64 v))) (by kernel_rfl) ?_ (fun hH0 => ?_)
                  · exact ⟨x0, x1, x2, x3, rc, lq⟩
                  refine wpAnyH_take (i := 0) (oi := { dst := some 100, op := Go.Op.move (Go.Operand.tmp 7), type := 44, pos := "law.go:109", after := #[], guard := none }) (v := ?vv9) rfl (by kernel_rfl) (by kernel_rfl) (by kernel_rfl) (fun _ _ _ h => h) (Or.inl ⟨by rfl, ?hy9⟩) (by assumption) ?rr9
                  case hy9 => intro w hSw; (try dsimp only at hSw); go_simp; all_goals with_reducible rfl
                  try simp only [Act.put, List.setIfInBounds_toArray, List.set_cons_zero, List.set_cons_succ]
                  refine wpAnyH_take (i := 1) (oi := { dst := some 101, op := Go.Op.move (Go.Operand.tmp 10), type := 3, pos := "law.go:109", after := #[], guard := none }) (v := ?vv10) rfl (by kernel_rfl) (by kernel_rfl) (by kernel_rfl) (fun _ _ _ h => h) (Or.inl ⟨by rfl, ?hy10⟩) (by assumption) ?rr10
                  case hy10 => intro w hSw; (try dsimp only at hSw); go_simp; all_goals with_reducible rfl
                  try simp only [Act.put, List.setIfInBounds_toArray, List.set_cons_zero, List.set_cons_succ]
                  refine wpAnyH_take (i := 2) (oi := { dst := some 102, op := Go.Op.indexAddr 44 (Go.Operand.tmp 100) (Go.Operand.tmp 101), type := 0, pos := "law.go:109", after := #[{ on := 0, ground := Go.Ground.data }, { on := 1, ground := Go.Ground.data }], guard := none }) (v := ?vv11) rfl (by kernel_rfl) (by kernel_rfl) (by kernel_rfl) (fun _ _ _ h => h) (Or.inl ⟨by rfl, ?hy11⟩) (by assumption) ?rr11
                  case hy11 => intro w hSw; (try dsimp only at hSw); go_simp; all_goals with_reducible rfl
                  try simp only [Act.put, List.setIfInBounds_toArray, List.set_cons_zero, List.set_cons_succ]
                  refine wpAnyH_take (i := 3) (oi := { dst := some 103, op := Go.Op.load 3 (Go.Operand.tmp 102), type := 3, pos := "law.go:109", after := #[{ on := 2, ground := Go.Ground.data }], guard := none }) (v := ?vv12) rfl (by kernel_rfl) (by kernel_rfl) (by kernel_rfl) (fun _ _ _ h => h) (Or.inl ⟨by rfl, ?hy12⟩) (by assumption) ?rr12
                  case hy12 => intro w hSw; (try dsimp only at hSw); go_simp; all_goals with_reducible rfl
                  try simp only [Act.put, List.setIfInBounds_toArray, List.set_cons_zero, List.set_cons_succ]
                  refine wpAnyH_take (i := 4) (oi := { dst := some 104, op := Go.Op.fieldAddr 53 (Go.Operand.tmp 1) 1, type := 0, pos := "law.go:109", after := #[], guard := none }) (v := ?vv13) rfl (by kernel_rfl) (by kernel_rfl) (by kernel_rfl) (fun _ _ _ h => h) (Or.inl ⟨by rfl, ?hy13⟩) (by assumption) ?rr13
                  case hy13 => intro w hSw; (try dsimp only at hSw); go_simp; all_goals with_reducible rfl
                  try simp only [Act.put, List.setIfInBounds_toArray, List.set_cons_zero, List.set_cons_succ]
                  refine wpAnyH_take (i := 5) (oi := { dst := some 105, op := Go.Op.load 44 (Go.Operand.tmp 104), type := 44, pos := "law.go:109", after := #[{ on := 4, ground := Go.Ground.data }], guard := none }) (v := ?vv14) rfl (by kernel_rfl) (by kernel_rfl) (by kernel_rfl) (fun _ _ _ h => h) (Or.inl ⟨by rfl, ?hy14⟩) (by assumption) ?rr14
                  case hy14 => intro w hSw; (try dsimp only at hSw); go_simp; all_goals with_reducible rfl
                  try simp only [Act.put, List.setIfInBounds_toArray, List.set_cons_zero, List.set_cons_succ]
                  refine wpAnyH_take (i := 6) (oi := { dst := some 106, op := Go.Op.move (Go.Operand.tmp 10), type := 3, pos := "law.go:109", after := #[], guard := none }) (v := ?vv15) rfl (by kernel_rfl) (by kernel_rfl) (by kernel_rfl) (fun _ _ _ h => h) (Or.inl ⟨by rfl, ?hy15⟩) (by assumption) ?rr15
                  case hy15 => intro w hSw; (try dsimp only at hSw); go_simp; all_goals with_reducible rfl
                  try simp only [Act.put, List.setIfInBounds_toArray, List.set_cons_zero, List.set_cons_succ]
                  refine wpAnyH_take (i := 7) (oi := { dst := some 107, op := Go.Op.indexAddr 44 (Go.Operand.tmp 105) (Go.Operand.tmp 106), type := 0, pos := "law.go:109", after := #[{ on := 5, ground := Go.Ground.data }, { on := 6, ground := Go.Ground.data }], guard := none }) (v := ?vv16) rfl (by kernel_rfl) (by kernel_rfl) (by kernel_rfl) (fun _ _ _ h => h) (Or.inl ⟨by rfl, ?hy16⟩) (by assumption) ?rr16
                  case hy16 => intro w hSw; (try dsimp only at hSw); go_simp; all_goals with_reducible rfl
                  try simp only [Act.put, List.setIfInBounds_toArray, List.set_cons_zero, List.set_cons_succ]
                  refine wpAnyH_take (i := 8) (oi := { dst := some 108, op := Go.Op.load 3 (Go.Operand.tmp 107), type := 3, pos := "law.go:109", after := #[{ on := 7, ground := Go.Ground.data }], guard := none }) (v := ?vv17) rfl (by kernel_rfl) (by kernel_rfl) (by kernel_rfl) (fun _ _ _ h => h) (Or.inl ⟨by rfl, ?hy17⟩) (by assumption) ?rr17
                  case hy17 => intro w hSw; (try dsimp only at hSw); go_simp; all_goals with_reducible rfl
                  try simp only [Act.put, List.setIfInBounds_toArray, List.set_cons_zero, List.set_cons_succ]
                  refine wpAnyH_take (i := 9) (oi := { dst := some 109, op := Go.Op.binOp Go.BinOp.neq 3 (Go.Operand.tmp 103) (Go.Operand.tmp 108) 3, type := 4, pos := "law.go:109", after := #[{ on := 3, ground := Go.Ground.data }, { on := 8, ground := Go.Ground.data }], guard := none }) (v := ?vv18) rfl (by kernel_rfl) (by kernel_rfl) (by kernel_rfl) (fun _ _ _ h => h) (Or.inl ⟨by rfl, ?hy18⟩) (by assumption) ?rr18
                  case hy18 => intro w hSw; (try dsimp only at hSw); go_simp; all_goals with_reducible rfl
                  try simp only [Act.put, List.setIfInBounds_toArray, List.set_cons_zero, List.set_cons_succ]
                  refine wpAnyH_done (by kernel_rfl) ?_ _
                  go_wp2_with fail
                  go_roundw
                  case rel => exact ⟨k' + 1, by omega, by go_num, by rw [HST.out, HRV.out, Bool.or_false], (HW.out.trans ((HV1.out.trans ((Below.refl _ v1).drew.mono HV1.out.size)).mono HW.out.size))⟩
                  case measure => simp [intOf]; omega
                · have htz := HTO.out hrv
                  obtain ⟨r, hri, hr0⟩ : ∃ r, refI h.objs.length v = r ∧ ¬ r < 0 := ⟨_, rfl, fun hh => by rw [refI_lt6, hrv] at hh; cases hh⟩
                  obtain ⟨rz, hrz, hrz0⟩ : ∃ rz, refI k.objs.length z = rz ∧ ¬ rz < 0 := ⟨_, rfl, fun hh => by rw [refI_lt6, htz] at hh; cases hh⟩
                  have HRI := hid hri
                  have HRZ := hid hrz
                  have HRV := hid hrv
                  clear hri hrz hrv htz
                  go_wp2_with fail
                  refine wp_region_held_drew (S := (fun w' => w'.cell? ⟨w.heap.size, 0, none⟩ = some (.slice A h.objs.length c) ∧ w'.cell? ⟨w.heap.size, 1, none⟩ = some (.int .i64 h.cap) ∧ w'.cell? ⟨w.heap.size, 2, none⟩ = some (.int .i64 h.last) ∧ w'.cell? ⟨w.heap.size, 3, none⟩ = some (.slice (some ⟨bl, ol, none⟩) rs.length dp) ∧ w'.cell? ⟨bl, ol + k', none⟩ = some (.int .i64 v))) (by kernel_rfl) ?_ (fun hH0 => ?_)
                  · exact ⟨x0, x1, x2, x3, rc⟩
                  refine wpAnyH_take (i := 0) (oi := { dst := some 91, op := Go.Op.fieldAddr 53 (Go.Operand.tmp 1) 0, type := 0, pos := "law.go:108", after := #[], guard := none }) (v := ?vv19) rfl (by kernel_rfl) (by kernel_rfl) (by kernel_rfl) (fun _ _ _ h => h) (Or.inl ⟨by rfl, ?hy19⟩) (by assumption) ?rr19
                  case hy19 => intro w hSw; (try dsimp only at hSw); go_simp; all_goals with_reducible rfl
                  try simp only [Act.put, List.setIfInBounds_toArray, List.set_cons_zero, List.set_cons_succ]
                  refine wpAnyH_take (i := 1) (oi := { dst := some 92, op := Go.Op.load 24 (Go.Operand.tmp 91), type := 24, pos := "law.go:108", after := #[{ on := 0, ground := Go.Ground.data }], guard := none }) (v := ?vv20) rfl (by kernel_rfl) (by kernel_rfl) (by kernel_rfl) (fun _ _ _ h => h) (Or.inl ⟨by rfl, ?hy20⟩) (by assumption) ?rr20
                  case hy20 => intro w hSw; (try dsimp only at hSw); go_simp; all_goals with_reducible rfl
                  try simp only [Act.put, List.setIfInBounds_toArray, List.set_cons_zero, List.set_cons_succ]
                  refine wpAnyH_take (i := 2) (oi := { dst := some 93, op := Go.Op.fieldAddr 53 (Go.Operand.tmp 1) 1, type := 0, pos := "law.go:108", after := #[], guard := none }) (v := ?vv21) rfl (by kernel_rfl) (by kernel_rfl) (by kernel_rfl) (fun _ _ _ h => h) (Or.inl ⟨by rfl, ?hy21⟩) (by assumption) ?rr21
                  case hy21 => intro w hSw; (try dsimp only at hSw); go_simp; all_goals with_reducible rfl
                  try simp only [Act.put, List.setIfInBounds_toArray, List.set_cons_zero, List.set_cons_succ]
                  refine wpAnyH_take (i := 3) (oi := { dst := some 94, op := Go.Op.load 44 (Go.Operand.tmp 93), type := 44, pos := "law.go:108", after := #[{ on := 2, ground := Go.Ground.data }], guard := none }) (v := ?vv22) rfl (by kernel_rfl) (by kernel_rfl) (by kernel_rfl) (fun _ _ _ h => h) (Or.inl ⟨by rfl, ?hy22⟩) (by assumption) ?rr22
                  case hy22 => intro w hSw; (try dsimp only at hSw); go_simp; all_goals with_reducible rfl
                  try simp only [Act.put, List.setIfInBounds_toArray, List.set_cons_zero, List.set_cons_succ]
                  refine wpAnyH_take (i := 4) (oi := { dst := some 95, op := Go.Op.move (Go.Operand.tmp 10), type := 3, pos := "law.go:108", after := #[], guard := none }) (v := ?vv23) rfl (by kernel_rfl) (by kernel_rfl) (by kernel_rfl) (fun _ _ _ h => h) (Or.inl ⟨by rfl, ?hy23⟩) (by assumption) ?rr23
                  case hy23 => intro w hSw; (try dsimp only at hSw); go_simp; all_goals with_reducible rfl
                  try simp only [Act.put, List.setIfInBounds_toArray, List.set_cons_zero, List.set_cons_succ]
                  refine wpAnyH_take (i := 5) (oi := { dst := some 96, op := Go.Op.indexAddr 44 (Go.Operand.tmp 94) (Go.Operand.tmp 95), type := 0, pos := "law.go:108", after := #[{ on := 3, ground := Go.Ground.data }, { on := 4, ground := Go.Ground.data }], guard := none }) (v := ?vv24) rfl (by kernel_rfl) (by kernel_rfl) (by kernel_rfl) (fun _ _ _ h => h) (Or.inl ⟨by rfl, ?hy24⟩) (by assumption) ?rr24
                  case hy24 => intro w hSw; (try dsimp only at hSw); go_simp; all_goals with_reducible rfl
                  try simp only [Act.put, List.setIfInBounds_toArray, List.set_cons_zero, List.set_cons_succ]
                  refine wpAnyH_take (i := 6) (oi := { dst := some 97, op := Go.Op.load 3 (Go.Operand.tmp 96), type := 3, pos := "law.go:108", after := #[{ on := 5, ground := Go.Ground.data }], guard := none }) (v := ?vv25) rfl (by kernel_rfl) (by kernel_rfl) (by kernel_rfl) (fun _ _ _ h => h) (Or.inl ⟨by rfl, ?hy25⟩) (by assumption) ?rr25
                  case hy25 => intro w hSw; (try dsimp only at hSw); go_simp; all_goals with_reducible rfl
                  try simp only [Act.put, List.setIfInBounds_toArray, List.set_cons_zero, List.set_cons_succ]
                  refine wpAnyH_ready (rs := [7]) (by kernel_rfl) (by simp) ?_
                  refine AllReadyH.cons (i := 7) (o := { dst := some 98, op := Go.Op.call { callee := Go.Callee.value (Go.Operand.func 35), args := #[Go.Operand.tmp 92, Go.Operand.tmp 97], argTypes := #[24, 3] }, type := 3, pos := "law.go:108", after := #[{ on := 1, ground := Go.Ground.data }, { on := 6, ground := Go.Ground.data }], guard := none }) rfl (fun K hK => ?_) AllReadyH.nil
                  go_simp
                  go_at_call 35
                  refine (rref_any h v A c _).mono ?_
                  rintro e v1 ⟨rfl, hb⟩
                  rw [HRI.out]
                  have HV1 := hid (then_b (Below.refl _ wo).drew hb)
                  refine hK.out _ _ ?_ (fun hH1 => ?_)
                  · exact ⟨cell_later hb hH0.1, cell_later hb hH0.2.1, cell_later hb hH0.2.2.1, cell_later hb hH0.2.2.2.1, cell_later hb hH0.2.2.2.2⟩
                  clear hK K
                  try simp only [Act.put, List.setIfInBounds_toArray, List.set_cons_zero, List.set_cons_succ]
                  clear hb
                  refine wpAnyH_take (i := 8) (oi := { dst := some 99, op := Go.Op.binOp Go.BinOp.lss 3 (Go.Operand.tmp 98) (Go.Operand.const (Go.Value.int Go.IntKind.i64 0)) 3, type := 4, pos := "law.go:108", after := #[{ on := 7, ground := Go.Ground.data }], guard := none }) (v := ?vv26) rfl (by kernel_rfl) (by kernel_rfl) (by kernel_rfl) (fun _ _ _ h => h) (Or.inl ⟨by rfl, ?hy26⟩) (by assumption) ?rr26
                  case hy26 => intro w hSw; (try dsimp only at hSw); go_simp; all_goals with_reducible rfl
                  try simp only [Act.put, List.setIfInBounds_toArray, List.set_cons_zero, List.set_cons_succ]
                  refine wpAnyH_done (by kernel_rfl) ?_ _
                  go_wp2_with fail
                  replace x0 := cell_later HV1.out x0
                  replace x1 := cell_later HV1.out x1
                  replace x2 := cell_later HV1.out x2
                  replace x3 := cell_later HV1.out x3
                  replace u0 := cell_later HV1.out u0
                  replace u1 := cell_later HV1.out u1
                  replace u2 := cell_later HV1.out u2
                  replace rc := cell_later HV1.out rc
                  replace lq := cell_later HV1.out lq
                  cases s
                  · have hzz := HFS.out rfl HRV.out
                    subst hzz
                    have hrz := HRZ.out
                    refine wp_region_held_drew (S := (fun w' => w'.cell? ⟨w5.heap.size, 0, none⟩ = some (.slice A5 k.objs.length c5) ∧ w'.cell? ⟨w5.heap.size, 1, none⟩ = some (.int .i64 k.cap) ∧ w'.cell? ⟨w5.heap.size, 2, none⟩ = some (.int .i64 k.last) ∧ w'.cell? ⟨bq, oq + k', none⟩ = some (.int .i64 0))) (by kernel_rfl) ?_ (fun hH0 => ?_)
                    · exact ⟨u0, u1, u2, lq⟩
                    refine wpAnyH_take (i := 0) (oi := { dst := some 110, op := Go.Op.move (Go.Operand.tmp 9), type := 4, pos := "law.go:114", after := #[], guard := none }) (v := ?vv27) rfl (by kernel_rfl) (by kernel_rfl) (by kernel_rfl) (fun _ _ _ h => h) (Or.inl ⟨by rfl, ?hy27⟩) (by assumption) ?rr27
                    case hy27 => intro w hSw; (try dsimp only at hSw); go_simp; all_goals with_reducible rfl
                    try simp only [Act.put, List.setIfInBounds_toArray, List.set_cons_zero, List.set_cons_succ]
                    refine wpAnyH_take (i := 1) (oi := { dst := some 111, op := Go.Op.unOp Go.UnOp.not 4 (Go.Operand.tmp 110), type := 4, pos := "law.go:114", after := #[{ on := 0, ground := Go.Ground.data }], guard := none }) (v := ?vv28) rfl (by kernel_rfl) (by kernel_rfl) (by kernel_rfl) (fun _ _ _ h => h) (Or.inl ⟨by rfl, ?hy28⟩) (by assumption) ?rr28
                    case hy28 => intro w hSw; (try dsimp only at hSw); go_simp; all_goals with_reducible rfl
                    try simp only [Act.put, List.setIfInBounds_toArray, List.set_cons_zero, List.set_cons_succ]
                    refine wpAnyH_take (i := 2) (oi := { dst := some 112, op := Go.Op.move (Go.Operand.tmp 111), type := 4, pos := "law.go:114", after := #[{ on := 1, ground := Go.Ground.data }], guard := none }) (v := ?vv29) rfl (by kernel_rfl) (by kernel_rfl) (by kernel_rfl) (fun _ _ _ h => h) (Or.inl ⟨by rfl, ?hy29⟩) (by assumption) ?rr29
                    case hy29 => intro w hSw; (try dsimp only at hSw); go_simp; all_goals with_reducible rfl
                    try simp only [Act.put, List.setIfInBounds_toArray, List.set_cons_zero, List.set_cons_succ]
                    refine wpAnyH_take (i := 3) (oi := { dst := some 113, op := Go.Op.move (Go.Operand.tmp 7), type := 44, pos := "law.go:114", after := #[{ on := 2, ground := Go.Ground.guard }], guard := some (2, true) }) (v := ?vv30) rfl (by kernel_rfl) (by kernel_rfl) (by kernel_rfl) (fun _ _ _ h => h) (Or.inl ⟨by rfl, ?hy30⟩) (by assumption) ?rr30
                    case hy30 => intro w hSw; (try dsimp only at hSw); go_simp; all_goals with_reducible rfl
                    try simp only [Act.put, List.setIfInBounds_toArray, List.set_cons_zero, List.set_cons_succ]
                    refine wpAnyH_take (i := 4) (oi := { dst := some 114, op := Go.Op.move (Go.Operand.tmp 10), type := 3, pos := "law.go:114", after := #[{ on := 2, ground := Go.Ground.guard }], guard := some (2, true) }) (v := ?vv31) rfl (by kernel_rfl) (by kernel_rfl) (by kernel_rfl) (fun _ _ _ h => h) (Or.inl ⟨by rfl, ?hy31⟩) (by assumption) ?rr31
                    case hy31 => intro w hSw; (try dsimp only at hSw); go_simp; all_goals with_reducible rfl
                    try simp only [Act.put, List.setIfInBounds_toArray, List.set_cons_zero, List.set_cons_succ]
                    refine wpAnyH_take (i := 5) (oi := { dst := some 115, op := Go.Op.indexAddr 44 (Go.Operand.tmp 113) (Go.Operand.tmp 114), type := 0, pos := "law.go:114", after := #[{ on := 3, ground := Go.Ground.data }, { on := 4, ground := Go.Ground.data }, { on := 2, ground := Go.Ground.guard }], guard := some (2, true) }) (v := ?vv32) rfl (by kernel_rfl) (by kernel_rfl) (by kernel_rfl) (fun _ _ _ h => h) (Or.inl ⟨by rfl, ?hy32⟩) (by assumption) ?rr32
                    case hy32 => intro w hSw; (try dsimp only at hSw); go_simp; all_goals with_reducible rfl
                    try simp only [Act.put, List.setIfInBounds_toArray, List.set_cons_zero, List.set_cons_succ]
                    refine wpAnyH_take (i := 6) (oi := { dst := some 116, op := Go.Op.load 3 (Go.Operand.tmp 115), type := 3, pos := "law.go:114", after := #[{ on := 5, ground := Go.Ground.data }, { on := 2, ground := Go.Ground.guard }], guard := some (2, true) }) (v := ?vv33) rfl (by kernel_rfl) (by kernel_rfl) (by kernel_rfl) (fun _ _ _ h => h) (Or.inl ⟨by rfl, ?hy33⟩) (by assumption) ?rr33
                    case hy33 => intro w hSw; (try dsimp only at hSw); go_simp; all_goals with_reducible rfl
                    try simp only [Act.put, List.setIfInBounds_toArray, List.set_cons_zero, List.set_cons_succ]
                    refine wpAnyH_take (i := 7) (oi := { dst := some 117, op := Go.Op.binOp Go.BinOp.neq 3 (Go.Operand.tmp 116) (Go.Operand.const (Go.Value.int Go.IntKind.i64 0)) 3, type := 4, pos := "law.go:114", after := #[{ on := 6, ground := Go.Ground.data }, { on := 2, ground := Go.Ground.guard }], guard := some (2, true) }) (v := ?vv34) rfl (by kernel_rfl) (by kernel_rfl) (by kernel_rfl) (fun _ _ _ h => h) (Or.inl ⟨by rfl, ?hy34⟩) (by assumption) ?rr34
                    case hy34 => intro w hSw; (try dsimp only at hSw); go_simp; all_goals with_reducible rfl
                    try simp only [Act.put, List.setIfInBounds_toArray, List.set_cons_zero, List.set_cons_succ]
                    refine wpAnyH_take (i := 8) (oi := { dst := some 118, op := Go.Op.pick (Go.Operand.tmp 112) (Go.Operand.tmp 117) (Go.Operand.const (Go.Value.bool false)), type := 4, pos := "law.go:114", after := #[{ on := 2, ground := Go.Ground.data }, { on := 7, ground := Go.Ground.data }], guard := none }) (v := ?vv35) rfl (by kernel_rfl) (by kernel_rfl) (by kernel_rfl) (fun _ _ _ h => h) (Or.inl ⟨by rfl, ?hy35⟩) (by assumption) ?rr35
                    case hy35 => intro w hSw; (try dsimp only at hSw); go_simp; all_goals with_reducible rfl
                    try simp only [Act.put, List.setIfInBounds_toArray, List.set_cons_zero, List.set_cons_succ]
                    refine wpAnyH_take (i := 9) (oi := { dst := some 119, op := Go.Op.move (Go.Operand.tmp 118), type := 4, pos := "law.go:114", after := #[{ on := 8, ground := Go.Ground.data }, { on := 2, ground := Go.Ground.chain }], guard := none }) (v := ?vv36) rfl (by kernel_rfl) (by kernel_rfl) (by kernel_rfl) (fun _ _ _ h => h) (Or.inl ⟨by rfl, ?hy36⟩) (by assumption) ?rr36
                    case hy36 => intro w hSw; (try dsimp only at hSw); go_simp; all_goals with_reducible rfl
                    try simp only [Act.put, List.setIfInBounds_toArray, List.set_cons_zero, List.set_cons_succ]
                    refine wpAnyH_take (i := 10) (oi := { dst := some 120, op := Go.Op.load 24 (Go.Operand.tmp 6), type := 24, pos := "law.go:114", after := #[{ on := 9, ground := Go.Ground.guard }], guard := some (9, false) }) (v := ?vv37) rfl (by kernel_rfl) (by kernel_rfl) (by kernel_rfl) (fun _ _ _ h => h) (Or.inl ⟨by rfl, ?hy37⟩) (by assumption) ?rr37
                    case hy37 => intro w hSw; (try dsimp only at hSw); go_simp; all_goals with_reducible rfl
                    try simp only [Act.put, List.setIfInBounds_toArray, List.set_cons_zero, List.set_cons_succ]
                    refine wpAnyH_take (i := 11) (oi := { dst := some 121, op := Go.Op.move (Go.Operand.tmp 7), type := 44, pos := "law.go:114", after := #[{ on := 9, ground := Go.Ground.guard }], guard := some (9, false) }) (v := ?vv38) rfl (by kernel_rfl) (by kernel_rfl) (by kernel_rfl) (fun _ _ _ h => h) (Or.inl ⟨by rfl, ?hy38⟩) (by assumption) ?rr38
                    case hy38 => intro w hSw; (try dsimp only at hSw); go_simp; all_goals with_reducible rfl
                    try simp only [Act.put, List.setIfInBounds_toArray, List.set_cons_zero, List.set_cons_succ]
                    refine wpAnyH_take (i := 12) (oi := { dst := some 122, op := Go.Op.move (Go.Operand.tmp 10), type := 3, pos := "law.go:114", after := #[{ on := 9, ground := Go.Ground.guard }], guard := some (9, false) }) (v := ?vv39) rfl (by kernel_rfl) (by kernel_rfl) (by kernel_rfl) (fun _ _ _ h => h) (Or.inl ⟨by rfl, ?hy39⟩) (by assumption) ?rr39
                    case hy39 => intro w hSw; (try dsimp only at hSw); go_simp; all_goals with_reducible rfl
                    try simp only [Act.put, List.setIfInBounds_toArray, List.set_cons_zero, List.set_cons_succ]
                    refine wpAnyH_take (i := 13) (oi := { dst := some 123, op := Go.Op.indexAddr 44 (Go.Operand.tmp 121) (Go.Operand.tmp 122), type := 0, pos := "law.go:114", after := #[{ on := 11, ground := Go.Ground.data }, { on := 12, ground := Go.Ground.data }, { on := 9, ground := Go.Ground.guard }], guard := some (9, false) }) (v := ?vv40) rfl (by kernel_rfl) (by kernel_rfl) (by kernel_rfl) (fun _ _ _ h => h) (Or.inl ⟨by rfl, ?hy40⟩) (by assumption) ?rr40
                    case hy40 => intro w hSw; (try dsimp only at hSw); go_simp; all_goals with_reducible rfl
                    try simp only [Act.put, List.setIfInBounds_toArray, List.set_cons_zero, List.set_cons_succ]
                    refine wpAnyH_take (i := 14) (oi := { dst := some 124, op := Go.Op.load 3 (Go.Operand.tmp 123), type := 3, pos := "law.go:114", after := #[{ on := 13, ground := Go.Ground.data }, { on := 9, ground := Go.Ground.guard }], guard := some (9, false) }) (v := ?vv41) rfl (by kernel_rfl) (by kernel_rfl) (by kernel_rfl) (fun _ _ _ h => h) (Or.inl ⟨by rfl, ?hy41⟩) (by assumption) ?rr41
                    case hy41 => intro w hSw; (try dsimp only at hSw); go_simp; all_goals with_reducible rfl
                    try simp only [Act.put, List.setIfInBounds_toArray, List.set_cons_zero, List.set_cons_succ]
                    refine wpAnyH_ready (rs := [15]) (by kernel_rfl) (by simp) ?_
                    refine AllReadyH.cons (i := 15) (o := { dst := some 125, op := Go.Op.call { callee := Go.Callee.value (Go.Operand.func 35), args := #[Go.Operand.tmp 120, Go.Operand.tmp 124], argTypes := #[24, 3] }, type := 3, pos := "law.go:114", after := #[{ on := 10, ground := Go.Ground.data }, { on := 14, ground := Go.Ground.data }, { on := 9, ground := Go.Ground.chain }, { on := 9, ground := Go.Ground.guard }], guard := some (9, false) }) rfl (fun K hK => ?_) AllReadyH.nil
                    go_simp
                    go_at_call 35
                    refine (rref_any k 0 A5 c5 _).mono ?_
                    rintro e v2 ⟨rfl, hb⟩
                    rw [hrz]
                    have HV2 := hid (then_b (Below.refl _ v1).drew hb)
                    refine hK.out _ _ ?_ (fun hH1 => ?_)
                    · exact ⟨cell_later hb hH0.1, cell_later hb hH0.2.1, cell_later hb hH0.2.2.1, cell_later hb hH0.2.2.2⟩
                    clear hK K
                    try simp only [Act.put, List.setIfInBounds_toArray, List.set_cons_zero, List.set_cons_succ]
                    clear hb
                    refine wpAnyH_take (i := 16) (oi := { dst := some 126, op := Go.Op.binOp Go.BinOp.lss 3 (Go.Operand.tmp 125) (Go.Operand.const (Go.Value.int Go.IntKind.i64 0)) 3, type := 4, pos := "law.go:114", after := #[{ on := 15, ground := Go.Ground.data }, { on := 9, ground := Go.Ground.guard }], guard := some (9, false) }) (v := ?vv42) rfl (by kernel_rfl) (by kernel_rfl) (by kernel_rfl) (fun _ _ _ h => h) (Or.inl ⟨by rfl, ?hy42⟩) (by assumption) ?rr42
                    case hy42 => intro w hSw; (try dsimp only at hSw); go_simp; all_goals with_reducible rfl
                    try simp only [Act.put, List.setIfInBounds_toArray, List.set_cons_zero, List.set_cons_succ]
                    refine wpAnyH_take (i := 17) (oi := { dst := some 127, op := Go.Op.pick (Go.Operand.tmp 119) (Go.Operand.const (Go.Value.bool true)) (Go.Operand.tmp 126), type := 4, pos := "law.go:114", after := #[{ on := 9, ground := Go.Ground.data }, { on := 16, ground := Go.Ground.data }], guard := none }) (v := ?vv43) rfl (by kernel_rfl) (by kernel_rfl) (by kernel_rfl) (fun _ _ _ h => h) (Or.inl ⟨by rfl, ?hy43⟩) (by assumption) ?rr43
                    case hy43 => intro w hSw; (try dsimp only at hSw); go_simp; all_goals with_reducible rfl
                    try simp only [Act.put, List.setIfInBounds_toArray, List.set_cons_zero, List.set_cons_succ]
                    refine wpAnyH_done (by kernel_rfl) ?_ _
                    have HV3 := hid (HV1.out.trans (HV2.out.mono HV1.out.size))
                    go_wp2_with fail
                    go_roundw
                    case rel => exact ⟨k' + 1, by omega, by go_num, by rw [HST.out, HRV.out, Bool.or_true], HW.out.trans (HV3.out.mono HW.out.size)⟩
                    case measure => simp [intOf]; omega
                  · have hrz := HRZ.out
                    refine wp_region_held_drew (S := (fun w' => w'.cell? ⟨w5.heap.size, 0, none⟩ = some (.slice A5 k.objs.length c5) ∧ w'.cell? ⟨w5.heap.size, 1, none⟩ = some (.int .i64 k.cap) ∧ w'.cell? ⟨w5.heap.size, 2, none⟩ = some (.int .i64 k.last) ∧ w'.cell? ⟨bq, oq + k', none⟩ = some (.int .i64 z))) (by kernel_rfl) ?_ (fun hH0 => ?_)
                    · exact ⟨u0, u1, u2, lq⟩
                    refine wpAnyH_take (i := 0) (oi := { dst := some 110, op := Go.Op.move (Go.Operand.tmp 9), type := 4, pos := "law.go:114", after := #[], guard := none }) (v := ?vv44) rfl (by kernel_rfl) (by kernel_rfl) (by kernel_rfl) (fun _ _ _ h => h) (Or.inl ⟨by rfl, ?hy44⟩) (by assumption) ?rr44
                    case hy44 => intro w hSw; (try dsimp only at hSw); go_simp; all_goals with_reducible rfl
                    try simp only [Act.put, List.setIfInBounds_toArray, List.set_cons_zero, List.set_cons_succ]
                    refine wpAnyH_take (i := 1) (oi := { dst := some 111, op := Go.Op.unOp Go.UnOp.not 4 (Go.Operand.tmp 110), type := 4, pos := "law.go:114", after := #[{ on := 0, ground := Go.Ground.data }], guard := none }) (v := ?vv45) rfl (by kernel_rfl) (by kernel_rfl) (by kernel_rfl) (fun _ _ _ h => h) (Or.inl ⟨by rfl, ?hy45⟩) (by assumption) ?rr45
                    case hy45 => intro w hSw; (try dsimp only at hSw); go_simp; all_goals with_reducible rfl
                    try simp only [Act.put, List.setIfInBounds_toArray, List.set_cons_zero, List.set_cons_succ]
                    refine wpAnyH_take (i := 2) (oi := { dst := some 112, op := Go.Op.move (Go.Operand.tmp 111), type := 4, pos := "law.go:114", after := #[{ on := 1, ground := Go.Ground.data }], guard := none }) (v := ?vv46) rfl (by kernel_rfl) (by kernel_rfl) (by kernel_rfl) (fun _ _ _ h => h) (Or.inl ⟨by rfl, ?hy46⟩) (by assumption) ?rr46
                    case hy46 => intro w hSw; (try dsimp only at hSw); go_simp; all_goals with_reducible rfl
                    try simp only [Act.put, List.setIfInBounds_toArray, List.set_cons_zero, List.set_cons_succ]
                    refine wpAnyH_take (i := 3) (oi := { dst := some 113, op := Go.Op.move (Go.Operand.tmp 7), type := 44, pos := "law.go:114", after := #[{ on := 2, ground := Go.Ground.guard }], guard := some (2, true) }) (v := undef) rfl (by kernel_rfl) (by kernel_rfl) (by kernel_rfl) (fun _ _ _ h => h) (Or.inr ⟨by rfl, rfl⟩) (by assumption) ?_
                    try simp only [Act.put, List.setIfInBounds_toArray, List.set_cons_zero, List.set_cons_succ]
                    refine wpAnyH_take (i := 4) (oi := { dst := some 114, op := Go.Op.move (Go.Operand.tmp 10), type := 3, pos := "law.go:114", after := #[{ on := 2, ground := Go.Ground.guard }], guard := some (2, true) }) (v := undef) rfl (by kernel_rfl) (by kernel_rfl) (by kernel_rfl) (fun _ _ _ h => h) (Or.inr ⟨by rfl, rfl⟩) (by assumption) ?_
                    try simp only [Act.put, List.setIfInBounds_toArray, List.set_cons_zero, List.set_cons_succ]
                    refine wpAnyH_take (i := 5) (oi := { dst := some 115, op := Go.Op.indexAddr 44 (Go.Operand.tmp 113) (Go.Operand.tmp 114), type := 0, pos := "law.go:114", after := #[{ on := 3, ground := Go.Ground.data }, { on := 4, ground := Go.Ground.data }, { on := 2, ground := Go.Ground.guard }], guard := some (2, true) }) (v := undef) rfl (by kernel_rfl) (by kernel_rfl) (by kernel_rfl) (fun _ _ _ h => h) (Or.inr ⟨by rfl, rfl⟩) (by assumption) ?_
                    try simp only [Act.put, List.setIfInBounds_toArray, List.set_cons_zero, List.set_cons_succ]
                    refine wpAnyH_take (i := 6) (oi := { dst := some 116, op := Go.Op.load 3 (Go.Operand.tmp 115), type := 3, pos := "law.go:114", after := #[{ on := 5, ground := Go.Ground.data }, { on := 2, ground := Go.Ground.guard }], guard := some (2, true) }) (v := undef) rfl (by kernel_rfl) (by kernel_rfl) (by kernel_rfl) (fun _ _ _ h => h) (Or.inr ⟨by rfl, rfl⟩) (by assumption) ?_
                    try simp only [Act.put, List.setIfInBounds_toArray, List.set_cons_zero, List.set_cons_succ]
                    refine wpAnyH_take (i := 7) (oi := { dst := some 117, op := Go.Op.binOp Go.BinOp.neq 3 (Go.Operand.tmp 116) (Go.Operand.const (Go.Value.int Go.IntKind.i64 0)) 3, type := 4, pos := "law.go:114", after := #[{ on := 6, ground := Go.Ground.data }, { on := 2, ground := Go.Ground.guard }], guard := some (2, true) }) (v := undef) rfl (by kernel_rfl) (by kernel_rfl) (by kernel_rfl) (fun _ _ _ h => h) (Or.inr ⟨by rfl, rfl⟩) (by assumption) ?_
                    try simp only [Act.put, List.setIfInBounds_toArray, List.set_cons_zero, List.set_cons_succ]
                    refine wpAnyH_take (i := 8) (oi := { dst := some 118, op := Go.Op.pick (Go.Operand.tmp 112) (Go.Operand.tmp 117) (Go.Operand.const (Go.Value.bool false)), type := 4, pos := "law.go:114", after := #[{ on := 2, ground := Go.Ground.data }, { on := 7, ground := Go.Ground.data }], guard := none }) (v := ?vv52) rfl (by kernel_rfl) (by kernel_rfl) (by kernel_rfl) (fun _ _ _ h => h) (Or.inl ⟨by rfl, ?hy52⟩) (by assumption) ?rr52
                    case hy52 => intro w hSw; (try dsimp only at hSw); go_simp; all_goals with_reducible rfl
                    try simp only [Act.put, List.setIfInBounds_toArray, List.set_cons_zero, List.set_cons_succ]
                    refine wpAnyH_take (i := 9) (oi := { dst := some 119, op := Go.Op.move (Go.Operand.tmp 118), type := 4, pos := "law.go:114", after := #[{ on := 8, ground := Go.Ground.data }, { on := 2, ground := Go.Ground.chain }], guard := none }) (v := ?vv53) rfl (by kernel_rfl) (by kernel_rfl) (by kernel_rfl) (fun _ _ _ h => h) (Or.inl ⟨by rfl, ?hy53⟩) (by assumption) ?rr53
                    case hy53 => intro w hSw; (try dsimp only at hSw); go_simp; all_goals with_reducible rfl
                    try simp only [Act.put, List.setIfInBounds_toArray, List.set_cons_zero, List.set_cons_succ]
                    refine wpAnyH_take (i := 10) (oi := { dst := some 120, op := Go.Op.load 24 (Go.Operand.tmp 6), type := 24, pos := "law.go:114", after := #[{ on := 9, ground := Go.Ground.guard }], guard := some (9, false) }) (v := ?vv54) rfl (by kernel_rfl) (by kernel_rfl) (by kernel_rfl) (fun _ _ _ h => h) (Or.inl ⟨by rfl, ?hy54⟩) (by assumption) ?rr54
                    case hy54 => intro w hSw; (try dsimp only at hSw); go_simp; all_goals with_reducible rfl
                    try simp only [Act.put, List.setIfInBounds_toArray, List.set_cons_zero, List.set_cons_succ]
                    refine wpAnyH_take (i := 11) (oi := { dst := some 121, op := Go.Op.move (Go.Operand.tmp 7), type := 44, pos := "law.go:114", after := #[{ on := 9, ground := Go.Ground.guard }], guard := some (9, false) }) (v := ?vv55) rfl (by kernel_rfl) (by kernel_rfl) (by kernel_rfl) (fun _ _ _ h => h) (Or.inl ⟨by rfl, ?hy55⟩) (by assumption) ?rr55
                    case hy55 => intro w hSw; (try dsimp only at hSw); go_simp; all_goals with_reducible rfl
                    try simp only [Act.put, List.setIfInBounds_toArray, List.set_cons_zero, List.set_cons_succ]
                    refine wpAnyH_take (i := 12) (oi := { dst := some 122, op := Go.Op.move (Go.Operand.tmp 10), type := 3, pos := "law.go:114", after := #[{ on := 9, ground := Go.Ground.guard }], guard := some (9, false) }) (v := ?vv56) rfl (by kernel_rfl) (by kernel_rfl) (by kernel_rfl) (fun _ _ _ h => h) (Or.inl ⟨by rfl, ?hy56⟩) (by assumption) ?rr56
                    case hy56 => intro w hSw; (try dsimp only at hSw); go_simp; all_goals with_reducible rfl
                    try simp only [Act.put, List.setIfInBounds_toArray, List.set_cons_zero, List.set_cons_succ]
                    refine wpAnyH_take (i := 13) (oi := { dst := some 123, op := Go.Op.indexAddr 44 (Go.Operand.tmp 121) (Go.Operand.tmp 122), type := 0, pos := "law.go:114", after := #[{ on := 11, ground := Go.Ground.data }, { on := 12, ground := Go.Ground.data }, { on := 9, ground := Go.Ground.guard }], guard := some (9, false) }) (v := ?vv57) rfl (by kernel_rfl) (by kernel_rfl) (by kernel_rfl) (fun _ _ _ h => h) (Or.inl ⟨by rfl, ?hy57⟩) (by assumption) ?rr57
                    case hy57 => intro w hSw; (try dsimp only at hSw); go_simp; all_goals with_reducible rfl
                    try simp only [Act.put, List.setIfInBounds_toArray, List.set_cons_zero, List.set_cons_succ]
                    refine wpAnyH_take (i := 14) (oi := { dst := some 124, op := Go.Op.load 3 (Go.Operand.tmp 123), type := 3, pos := "law.go:114", after := #[{ on := 13, ground := Go.Ground.data }, { on := 9, ground := Go.Ground.guard }], guard := some (9, false) }) (v := ?vv58) rfl (by kernel_rfl) (by kernel_rfl) (by kernel_rfl) (fun _ _ _ h => h) (Or.inl ⟨by rfl, ?hy58⟩) (by assumption) ?rr58
                    case hy58 => intro w hSw; (try dsimp only at hSw); go_simp; all_goals with_reducible rfl
                    try simp only [Act.put, List.setIfInBounds_toArray, List.set_cons_zero, List.set_cons_succ]
                    refine wpAnyH_ready (rs := [15]) (by kernel_rfl) (by simp) ?_
                    refine AllReadyH.cons (i := 15) (o := { dst := some 125, op := Go.Op.call { callee := Go.Callee.value (Go.Operand.func 35), args := #[Go.Operand.tmp 120, Go.Operand.tmp 124], argTypes := #[24, 3] }, type := 3, pos := "law.go:114", after := #[{ on := 10, ground := Go.Ground.data }, { on := 14, ground := Go.Ground.data }, { on := 9, ground := Go.Ground.chain }, { on := 9, ground := Go.Ground.guard }], guard := some (9, false) }) rfl (fun K hK => ?_) AllReadyH.nil
                    go_simp
                    go_at_call 35
                    refine (rref_any k z A5 c5 _).mono ?_
                    rintro e v2 ⟨rfl, hb⟩
                    rw [hrz]
                    have HV2 := hid (then_b (Below.refl _ v1).drew hb)
                    refine hK.out _ _ ?_ (fun hH1 => ?_)
                    · exact ⟨cell_later hb hH0.1, cell_later hb hH0.2.1, cell_later hb hH0.2.2.1, cell_later hb hH0.2.2.2⟩
                    clear hK K
                    try simp only [Act.put, List.setIfInBounds_toArray, List.set_cons_zero, List.set_cons_succ]
                    clear hb
                    refine wpAnyH_take (i := 16) (oi := { dst := some 126, op := Go.Op.binOp Go.BinOp.lss 3 (Go.Operand.tmp 125) (Go.Operand.const (Go.Value.int Go.IntKind.i64 0)) 3, type := 4, pos := "law.go:114", after := #[{ on := 15, ground := Go.Ground.data }, { on := 9, ground := Go.Ground.guard }], guard := some (9, false) }) (v := ?vv59) rfl (by kernel_rfl) (by kernel_rfl) (by kernel_rfl) (fun _ _ _ h => h) (Or.inl ⟨by rfl, ?hy59⟩) (by assumption) ?rr59
                    case hy59 => intro w hSw; (try dsimp only at hSw); go_simp; all_goals with_reducible rfl
                    try simp only [Act.put, List.setIfInBounds_toArray, List.set_cons_zero, List.set_cons_succ]
                    refine wpAnyH_take (i := 17) (oi := { dst := some 127, op := Go.Op.pick (Go.Operand.tmp 119) (Go.Operand.const (Go.Value.bool true)) (Go.Operand.tmp 126), type := 4, pos := "law.go:114", after := #[{ on := 9, ground := Go.Ground.data }, { on := 16, ground := Go.Ground.data }], guard := none }) (v := ?vv60) rfl (by kernel_rfl) (by kernel_rfl) (by kernel_rfl) (fun _ _ _ h => h) (Or.inl ⟨by rfl, ?hy60⟩) (by assumption) ?rr60
                    case hy60 => intro w hSw; (try dsimp only at hSw); go_simp; all_goals with_reducible rfl
                    try simp only [Act.put, List.setIfInBounds_toArray, List.set_cons_zero, List.set_cons_succ]
                    refine wpAnyH_done (by kernel_rfl) ?_ _
                    have HV3 := hid (HV1.out.trans (HV2.out.mono HV1.out.size))
                    go_wp2_with fail
                    go_roundw
                    case rel => exact ⟨k' + 1, by omega, by go_num, by rw [HST.out, HRV.out, Bool.or_true], HW.out.trans (HV3.out.mono HW.out.size)⟩
                    case measure => simp [intOf]; omega
              · have hkl2 : k' = rs.length := by omega
                subst hkl2
                rw [List.take_length]
                have hsome := cn_some (h := h) (rs := rs) HQen.out.symm
                rw [← HQk.out] at hsome
                cases hs : rs.any (refB h.objs.length)
                · have hn0 : k.objs.length = 0 := by
                    rcases Nat.eq_zero_or_pos k.objs.length with h0 | h0
                    · exact h0
                    · obtain ⟨v, hv, hr⟩ := hsome.1 h0
                      have := List.any_eq_false.1 hs v hv
                      exact absurd hr this
                  clear hsome hs
                  go_wp2_with fail
                  go_ret
                  exact ⟨by simp [hn0], HBo.out⟩
                · have hn0 : 0 < k.objs.length := by
                    obtain ⟨v, hv, hr⟩ := List.any_eq_true.1 hs
                    exact hsome.2 ⟨v, hv, hr⟩
                  clear hsome hs
                  go_wp2_with fail
                  go_ret
                  exact ⟨by simp, HBo.out⟩
          · skip
            go_wp2_with fail
            go_loopw [10, 9] (fun i s wr => ∃ k' : Nat, k' ≤ rs.length ∧ i = .int .i64 k' ∧ s = .bool ((rs.take k').any (refB h.objs.length)) ∧ Below (w5.alloc (.cells #[Value.slice A5 k.objs.length c5, Value.int .i64 k.cap, Value.int .i64 k.last] 24)).heap.size (w5.alloc (.cells #[Value.slice A5 k.objs.length c5, Value.int .i64 k.cap, Value.int .i64 k.last] 24)) wr) (fun i _ _ => rs.length - (intOf i).toNat)
            case atStart => exact ⟨0, Nat.zero_le _, rfl, rfl, Below.refl _ _⟩
            case round =>
              obtain ⟨k', hk', rfl, rfl, hbw⟩ := hrel
              rename World => wo
              have HW := hid hbw
              have HXo := hid (X5.out.later hbw)
              have HUo := hid (H5.out.later hbw)
              have HBo := hid (HB5.out.trans (hbw.mono HB5.out.size))
              clear hbw
              have x0 := HXo.out.cell 0
              have x1 := HXo.out.cell 1
              have x2 := HXo.out.cell 2
              have x3 := HXo.out.cell 3
              have u0 := HUo.out.cell 0
              have u1 := HUo.out.cell 1
              have u2 := HUo.out.cell 2
              simp only [List.getElem?_toArray, List.getElem?_cons_zero, List.getElem?_cons_succ] at x0 x1 x2 x3 u0 u1 u2
              by_cases hlt : k' < rs.length
              · go_wp2_with fail
                go_ret
                exact ⟨by simp, HBo.out⟩
              · go_wp2_with fail
                go_ret
                exact ⟨by simp, HBo.out⟩
end Go.Proofs.Ytododpdkbdndoaa
