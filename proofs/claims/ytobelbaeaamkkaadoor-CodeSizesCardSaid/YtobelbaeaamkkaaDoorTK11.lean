/- The program's word on what instruction a line is. -/
import Derived.Test.YtobelbaeaamkkaaDoorTJ11
namespace Go.Proofs.YtobelbaeaamkkaaDoor
open Go.RowKit
set_option maxRecDepth 100000
theorem argof_any11 (s : List UInt8) (hs : s.length ≤ 1000000) (w : World) (hv : Vr11 w) : Calls Tryd.prog 47 #[.string (str s)] w fun e w' => e = .returned (.int .i64 (ag11 s)) ∧ Below w.heap.size w w' := by
  have HV := hid hv
  have hl := ct_len11 32 s
  clear hv
  have hn1 := nm_bd11 (ct11 32 s).1
  have hn2 := nm_bd11 (ct11 32 s).2.1
  have HAG : Hid (ag11 s = if (ct11 32 s).2.2 then 8 * nm11 (ct11 32 s).1 + nm11 (ct11 32 s).2.1 else nm11 (ct11 32 s).1) := rfl
  have HC : Hid (∀ w0, Vr11 w0 → Calls Tryd.prog 45 #[.string (str s), .string (str [32])] w0 fun e w' => e = .returned (.tuple #[.string (str (ct11 32 s).1), .string (str (ct11 32 s).2.1), .bool (ct11 32 s).2.2]) ∧ Below w0.heap.size w0 w') := fun w0 h => cut_any11 s 32 hs w0 h
  obtain ⟨p, q, f, hpq⟩ : ∃ p q f, ct11 32 s = (p, q, f) := ⟨_, _, _, rfl⟩
  rw [hpq] at hl HAG hn1 hn2 HC
  simp only at hl HAG hn1 hn2 HC
  have HL := hid hl
  clear hl hpq
  go_enter Tryd.func47, Tryd.ntmps47
  go_wp2_with fail
  refine (HC.out _ HV.out).mono ?_
  rintro e w1 ⟨rfl, hb⟩
  have HB1 := hid hb
  have HV1 := hid (HV.out.later hb)
  clear hb
  cases f
  · go_wp2_with fail
    refine (number_any11 p (by have := HL.out; omega) _ HV1.out).mono ?_
    rintro e w2 ⟨rfl, hb⟩
    have HB2 := hid (then_w HB1.out hb)
    clear hb
    go_wp2_with fail
    go_ret
    exact ⟨by rw [HAG.out]; rfl, HB2.out⟩
  · have w8 : IntKind.i64.wrap (8 * nm11 p) = 8 * nm11 p := IntWalk.i64_in _ ⟨by omega, by omega⟩
    have w9 : IntKind.i64.wrap (8 * nm11 p + nm11 q) = 8 * nm11 p + nm11 q := IntWalk.i64_in _ ⟨by omega, by omega⟩
    go_wp2_with fail
    refine (number_any11 p (by have := HL.out; omega) _ HV1.out).mono ?_
    rintro e w2 ⟨rfl, hb⟩
    have HB2 := hid (then_w HB1.out hb)
    have HV2 := hid (HV1.out.later hb)
    clear hb
    go_wp2_with fail
    refine (number_any11 q (by have := HL.out; omega) _ HV2.out).mono ?_
    rintro e w3 ⟨rfl, hb⟩
    have HB3 := hid (then_w HB2.out hb)
    clear hb
    go_wp2_with fail
    go_ret
    exact ⟨by rw [HAG.out]; rfl, HB3.out⟩
/-- what instruction a line is, and whether it is one -/
def InO11 (s : List UInt8) (w : World) (e : Ending) (w' : World) : Prop :=
  ∃ (i : In) (b : Bool), e = .returned (.tuple #[.agg #[.int .i64 i.op, .int .i64 i.a], .bool b]) ∧ (b = true → rd11 s = some i) ∧ (b = false → rd11 s = none) ∧ Below w.heap.size w w'
set_option maxHeartbeats 2000000 in
theorem instrof_any11 (s : List UInt8) (hs : s.length ≤ 100000) (w : World) (hv : Vr11 w) : Calls Tryd.prog 33 #[.string (str s)] w (InO11 s w) := by
  have HV := hid hv
  have hl := ct_len11 32 s
  have HP : Hid (pi11 s = ⟨op11 (ct11 32 s).1, ag11 (ct11 32 s).2.1⟩) := rfl
  have HNO : Hid ((wds11.contains (ct11 32 s).1 = true → may11 (pi11 s) = true → ln11 (pi11 s) = s → False) → rd11 s = none) := rd_no11
  have HC : Hid (∀ w0, Vr11 w0 → Calls Tryd.prog 45 #[.string (str s), .string (str [32])] w0 fun e w' => e = .returned (.tuple #[.string (str (ct11 32 s).1), .string (str (ct11 32 s).2.1), .bool (ct11 32 s).2.2]) ∧ Below w0.heap.size w0 w') := fun w0 h => cut_any11 s 32 (by omega) w0 h
  obtain ⟨p, q, f, hpq⟩ : ∃ p q f, ct11 32 s = (p, q, f) := ⟨_, _, _, rfl⟩
  rw [hpq] at hl HP HNO HC
  simp only at hl HP HNO HC
  have HL := hid hl
  clear hl hpq hv
  obtain ⟨w0, hw0⟩ : ∃ u, u = w.alloc (.cells #[.int .i64 0, .int .i64 0] 34) := ⟨_, rfl⟩
  have hb0 : Below w.heap.size w w0 := by rw [hw0]; exact below_alloc _ _
  have HR0 := hid (show Lies w0 w.heap.size 34 #[.int .i64 0, .int .i64 0] by rw [hw0]; exact Lies.new _ _ _)
  have HB0 := hid hb0
  have HV0 := hid (HV.out.later hb0)
  clear hb0
  go_enter Tryd.func33, Tryd.ntmps33
  go_wp2_with fail
  rw [← hw0]
  clear hw0
  refine (HC.out _ HV0.out).mono ?_
  rintro e w1 ⟨rfl, hb⟩
  have HB1 := hid (then_w HB0.out hb)
  have HV1 := hid (HV0.out.later hb)
  have HR1 := hid (HR0.out.later hb)
  clear hb
  go_wp2_with fail
  refine (opof_any11 p _ HV1.out).mono ?_
  rintro e w2 ⟨⟨k, rfl, hk⟩, rfl⟩
  have HK := hid hk
  clear hk
  cases hcn : wds11.contains p
  · have HRD := hid (HNO.out (fun h => by rw [hcn] at h; cases h))
    have r0 := HR1.out.cell 0
    have r1 := HR1.out.cell 1
    have f0 := HR1.out.frozen 0
    have f1 := HR1.out.frozen 1
    simp only [List.getElem?_toArray, List.getElem?_cons_zero, List.getElem?_cons_succ] at r0 r1
    clear hcn
    go_wp2_with fail
    have hl2 := (HR1.out.set_ 0 (.int .i64 0)).set_ 1 (.int .i64 0)
    have s0 := hl2.cell 0
    have s1 := hl2.cell 1
    have HB2 : Hid (Below w.heap.size w ((w1.setCell ⟨w.heap.size, 0, none⟩ (.int .i64 0)).setCell ⟨w.heap.size, 1, none⟩ (.int .i64 0))) := (HB1.out.setCell (p := ⟨w.heap.size, 0, none⟩) (Nat.le_refl _) _).setCell (p := ⟨w.heap.size, 1, none⟩) (Nat.le_refl _) _
    clear hl2
    simp only [List.setIfInBounds_toArray, List.set_cons_zero, List.set_cons_succ, List.getElem?_toArray, List.getElem?_cons_zero, List.getElem?_cons_succ] at s0 s1
    refine bodyPost_ret (v := .tuple #[.agg #[.int .i64 0, .int .i64 0], .bool false]) (by simp [results, Tryd.results33, go_sem, s0, s1]) rfl ?_
    exact ⟨⟨0, 0⟩, false, rfl, fun h => (by cases h), fun _ => HRD.out, HB2.out⟩
  · have HX : Hid (pi11 s = ⟨k, ag11 q⟩) := by show _ = _; rw [HP.out, HK.out hcn]
    have HNR : Hid ((may11 (pi11 s) = true → ln11 (pi11 s) = s → False) → rd11 s = none) := fun h => HNO.out (fun _ => h)
    have HYR : Hid (may11 (pi11 s) = true → ln11 (pi11 s) = s → rd11 s = some (pi11 s)) := rd_yes11
    have HAR := hid (fun w0 h0 => argof_any11 q (by have := HL.out; omega) w0 h0)
    obtain ⟨a, ha⟩ : ∃ a, a = ag11 q := ⟨_, rfl⟩
    rw [← ha] at HX HAR
    rw [HX.out] at HNR HYR
    clear hcn ha HNO HP HK
    go_wp2_with fail
    refine (HAR.out _ HV1.out).mono ?_
    rintro e w3 ⟨rfl, hb⟩
    have HB3 := hid (then_w HB1.out hb)
    have HR3 := hid (HR1.out.later hb)
    clear hb
    obtain ⟨w4, hw4⟩ : ∃ u, u = w3.alloc (.cells #[.int .i64 k, .int .i64 a] 34) := ⟨_, rfl⟩
    have hb4 : Below w3.heap.size w3 w4 := by rw [hw4]; exact below_alloc _ _
    have hX4 : Lies w4 w3.heap.size 34 #[.int .i64 k, .int .i64 a] := by rw [hw4]; exact Lies.new _ _ _
    have HR4 := hid (HR3.out.later hb4)
    have HB4 := hid (then_w HB3.out hb4)
    have HV4 := hid (HV.out.later HB4.out)
    obtain ⟨bi, hbi⟩ : ∃ u, u = w3.heap.size := ⟨_, rfl⟩
    rw [← hbi] at hX4
    have HNE : Hid (bi ≠ w.heap.size) := by show _ ≠ _; rw [hbi]; have := HR3.out.lt; omega
    have HX4 := hid hX4
    clear hb4 hX4
    go_upto_region 6 with fail
    rw [← hw4, ← hbi]
    clear hw4 hbi
    have x0 := HX4.out.drew.cell 0
    have x1 := HX4.out.drew.cell 1
    simp only [List.getElem?_toArray, List.getElem?_cons_zero, List.getElem?_cons_succ] at x0 x1
    cases hm : may11 ⟨k, a⟩
    · have HM := hid hm
      have HRD := hid (HNR.out (fun h => by rw [hm] at h; cases h))
      clear hm
      refine wp_region_held_drew (S := (fun w' => w'.cell? ⟨bi, 0, none⟩ = some (.int .i64 k) ∧ w'.cell? ⟨bi, 1, none⟩ = some (.int .i64 a) ∧ Vr11 w' ∧ Lies w' bi 34 #[.int .i64 k, .int .i64 a] ∧ ∃ z0 z1, Lies w' w.heap.size 34 #[.int .i64 z0, .int .i64 z1])) (by kernel_rfl) ?_ (fun hH0 => ?_)
      · exact ⟨x0, x1, HV4.out.later (Below.refl _ _).drew, HX4.out.drew, 0, 0, HR4.out.drew⟩
      refine wpAnyH_take (i := 0) (oi := { dst := some 28, op := Go.Op.load 34 (Go.Operand.tmp 9), type := 34, pos := "code.go:197", after := #[], guard := none }) (v := ?vv1) rfl (by kernel_rfl) (by kernel_rfl) (by kernel_rfl) (fun _ _ _ h => h) (Or.inl ⟨by rfl, ?hy1⟩) (by assumption) ?rr1
      case hy1 => intro w hSw; (try dsimp only at hSw); go_simp; all_goals with_reducible rfl
      try simp only [Act.put, List.setIfInBounds_toArray, List.set_cons_zero, List.set_cons_succ]
      refine wpAnyH_take (i := 1) (oi := { dst := some 29, op := Go.Op.load 34 (Go.Operand.tmp 9), type := 34, pos := "code.go:197", after := #[], guard := none }) (v := ?vv2) rfl (by kernel_rfl) (by kernel_rfl) (by kernel_rfl) (fun _ _ _ h => h) (Or.inl ⟨by rfl, ?hy2⟩) (by assumption) ?rr2
      case hy2 => intro w hSw; (try dsimp only at hSw); go_simp; all_goals with_reducible rfl
      try simp only [Act.put, List.setIfInBounds_toArray, List.set_cons_zero, List.set_cons_succ]
      refine wpAnyH_ready (rs := [2]) (by kernel_rfl) (by simp) ?_
      refine AllReadyH.cons (i := 2) (o := { dst := some 30, op := Go.Op.call { callee := Go.Callee.value (Go.Operand.func 31), args := #[Go.Operand.tmp 29], argTypes := #[34] }, type := 4, pos := "code.go:197", after := #[{ on := 1, ground := Go.Ground.data }], guard := none }) rfl (fun K hK => ?_) AllReadyH.nil
      go_simp
      go_at_call 31
      refine (pmay_any11 ⟨k, a⟩ _).mono ?_
      rintro e u1 ⟨rfl, hb⟩
      rw [HM.out]
      have HW1 := hid (then_w HB4.out.drew hb)
      refine hK.out _ _ ?_ (fun hH1 => ?_)
      · exact ⟨cell_later hb hH0.1, cell_later hb hH0.2.1, hH0.2.2.1.later hb, hH0.2.2.2.1.later hb, by obtain ⟨z0, z1, hl⟩ := hH0.2.2.2.2; exact ⟨z0, z1, hl.later hb⟩⟩
      clear hK K
      try simp only [Act.put, List.setIfInBounds_toArray, List.set_cons_zero, List.set_cons_succ]
      clear hb
      refine wpAnyH_take (i := 3) (oi := { dst := some 31, op := Go.Op.move (Go.Operand.tmp 30), type := 4, pos := "code.go:197", after := #[{ on := 2, ground := Go.Ground.data }, { on := 2, ground := Go.Ground.chain }], guard := none }) (v := ?vv3) rfl (by kernel_rfl) (by kernel_rfl) (by kernel_rfl) (fun _ _ _ h => h) (Or.inl ⟨by rfl, ?hy3⟩) (by assumption) ?rr3
      case hy3 => intro w hSw; (try dsimp only at hSw); go_simp; all_goals with_reducible rfl
      try simp only [Act.put, List.setIfInBounds_toArray, List.set_cons_zero, List.set_cons_succ]
      refine wpAnyH_take (i := 4) (oi := { dst := some 32, op := Go.Op.load 34 (Go.Operand.tmp 9), type := 34, pos := "code.go:197", after := #[{ on := 3, ground := Go.Ground.guard }], guard := some (3, true) }) (v := undef) rfl (by kernel_rfl) (by kernel_rfl) (by kernel_rfl) (fun _ _ _ h => h) (Or.inr ⟨by rfl, rfl⟩) (by assumption) ?_
      try simp only [Act.put, List.setIfInBounds_toArray, List.set_cons_zero, List.set_cons_succ]
      refine wpAnyH_take (i := 5) (oi := { dst := some 33, op := Go.Op.call { callee := Go.Callee.value (Go.Operand.func 29), args := #[Go.Operand.tmp 32], argTypes := #[34] }, type := 9, pos := "code.go:197", after := #[{ on := 4, ground := Go.Ground.data }, { on := 3, ground := Go.Ground.chain }, { on := 3, ground := Go.Ground.guard }], guard := some (3, true) }) (v := undef) rfl (by kernel_rfl) (by kernel_rfl) (by kernel_rfl) (fun _ _ _ h => h) (Or.inr ⟨by rfl, rfl⟩) (by assumption) ?_
      try simp only [Act.put, List.setIfInBounds_toArray, List.set_cons_zero, List.set_cons_succ]
      refine wpAnyH_take (i := 6) (oi := { dst := some 34, op := Go.Op.move (Go.Operand.tmp 0), type := 9, pos := "code.go:197", after := #[{ on := 3, ground := Go.Ground.guard }, { on := 9, ground := Go.Ground.gcOnly Go.Departure.lateStores }], guard := some (3, true) }) (v := undef) rfl (by kernel_rfl) (by kernel_rfl) (by kernel_rfl) (fun _ _ _ h => h) (Or.inr ⟨by rfl, rfl⟩) (by assumption) ?_
      try simp only [Act.put, List.setIfInBounds_toArray, List.set_cons_zero, List.set_cons_succ]
      refine wpAnyH_take (i := 7) (oi := { dst := some 35, op := Go.Op.binOp Go.BinOp.eql 9 (Go.Operand.tmp 33) (Go.Operand.tmp 34) 9, type := 4, pos := "code.go:197", after := #[{ on := 5, ground := Go.Ground.data }, { on := 6, ground := Go.Ground.data }, { on := 3, ground := Go.Ground.guard }, { on := 9, ground := Go.Ground.gcOnly Go.Departure.lateStores }], guard := some (3, true) }) (v := undef) rfl (by kernel_rfl) (by kernel_rfl) (by kernel_rfl) (fun _ _ _ h => h) (Or.inr ⟨by rfl, rfl⟩) (by assumption) ?_
      try simp only [Act.put, List.setIfInBounds_toArray, List.set_cons_zero, List.set_cons_succ]
      refine wpAnyH_take (i := 8) (oi := { dst := some 36, op := Go.Op.pick (Go.Operand.tmp 31) (Go.Operand.tmp 35) (Go.Operand.const (Go.Value.bool false)), type := 4, pos := "code.go:197", after := #[{ on := 3, ground := Go.Ground.data }, { on := 7, ground := Go.Ground.data }, { on := 9, ground := Go.Ground.gcOnly Go.Departure.lateStores }], guard := none }) (v := ?vv8) rfl (by kernel_rfl) (by kernel_rfl) (by kernel_rfl) (fun _ _ _ h => h) (Or.inl ⟨by rfl, ?hy8⟩) (by assumption) ?rr8
      case hy8 => intro w hSw; (try dsimp only at hSw); go_simp; all_goals with_reducible rfl
      try simp only [Act.put, List.setIfInBounds_toArray, List.set_cons_zero, List.set_cons_succ]
      refine wpAnyH_ready (rs := [9]) (by kernel_rfl) (by simp) ?_
      refine AllReadyH.cons (i := 9) (o := { dst := none, op := Go.Op.store 34 (Go.Operand.tmp 2) (Go.Operand.tmp 28), type := 0, pos := "code.go:197", after := #[{ on := 0, ground := Go.Ground.data }, { on := 5, ground := Go.Ground.chain }, { on := 0, ground := Go.Ground.phase }, { on := 1, ground := Go.Ground.textOnly Go.Departure.lateStores }, { on := 2, ground := Go.Ground.textOnly Go.Departure.lateStoresUnsure }, { on := 3, ground := Go.Ground.textOnly Go.Departure.lateStores }, { on := 4, ground := Go.Ground.textOnly Go.Departure.lateStores }, { on := 5, ground := Go.Ground.textOnly Go.Departure.lateStoresUnsure }, { on := 6, ground := Go.Ground.textOnly Go.Departure.lateStores }, { on := 7, ground := Go.Ground.textOnly Go.Departure.lateStores }, { on := 8, ground := Go.Ground.textOnly Go.Departure.lateStores }], guard := none }) rfl (fun K hK => ?_) AllReadyH.nil
      obtain ⟨z0, z1, hl⟩ := hH1.2.2.2.2
      have r0 := hl.cell 0
      have r1 := hl.cell 1
      have f0 := hl.frozen 0
      have f1 := hl.frozen 1
      simp only [List.getElem?_toArray, List.getElem?_cons_zero, List.getElem?_cons_succ] at r0 r1
      have HL9 := hid ((hl.set_ 0 (.int .i64 k)).set_ 1 (.int .i64 a))
      have HX9 := hid ((hH1.2.2.2.1.far (p := ⟨w.heap.size, 0, none⟩) HNE.out (.int .i64 k)).far (p := ⟨w.heap.size, 1, none⟩) HNE.out (.int .i64 a))
      have HB9 : Hid (Below w.heap.size w ((u1.setCell ⟨w.heap.size, 0, none⟩ (.int .i64 k)).setCell ⟨w.heap.size, 1, none⟩ (.int .i64 a))) := (HW1.out.setCell (p := ⟨w.heap.size, 0, none⟩) (Nat.le_refl _) _).setCell (p := ⟨w.heap.size, 1, none⟩) (Nat.le_refl _) _
      clear hl
      go_simp
      refine hK.out _ _ ?_ (fun hH2 => ?_)
      · exact ⟨by have := HX9.out.cell 0; simpa using this, by have := HX9.out.cell 1; simpa using this, HV.out.later HB9.out, HX9.out, k, a, by have := HL9.out; simpa using this⟩
      clear hK K
      try simp only [Act.put, List.setIfInBounds_toArray, List.set_cons_zero, List.set_cons_succ]
      clear r0 r1 f0 f1
      refine wpAnyH_take (i := 10) (oi := { dst := some 3, op := Go.Op.assign (Go.Operand.tmp 36), type := 4, pos := "code.go:197", after := #[{ on := 8, ground := Go.Ground.data }, { on := 9, ground := Go.Ground.chain }, { on := 0, ground := Go.Ground.phase }, { on := 1, ground := Go.Ground.phase }, { on := 2, ground := Go.Ground.phase }, { on := 3, ground := Go.Ground.phase }, { on := 4, ground := Go.Ground.phase }, { on := 5, ground := Go.Ground.phase }, { on := 6, ground := Go.Ground.phase }, { on := 7, ground := Go.Ground.phase }, { on := 8, ground := Go.Ground.phase }, { on := 9, ground := Go.Ground.phase }], guard := none }) (v := ?vv9) rfl (by kernel_rfl) (by kernel_rfl) (by kernel_rfl) (fun _ _ _ h => h) (Or.inl ⟨by rfl, ?hy9⟩) (by assumption) ?rr9
      case hy9 => intro w hSw; (try dsimp only at hSw); go_simp; all_goals with_reducible rfl
      try simp only [Act.put, List.setIfInBounds_toArray, List.set_cons_zero, List.set_cons_succ]
      refine wpAnyH_done (by kernel_rfl) ?_ _
      have s0 := HL9.out.cell 0
      have s1 := HL9.out.cell 1
      simp only [List.setIfInBounds_toArray, List.set_cons_zero, List.set_cons_succ, List.getElem?_toArray, List.getElem?_cons_zero, List.getElem?_cons_succ] at s0 s1
      go_wp2_with fail
      refine bodyPost_ret (v := .tuple #[.agg #[.int .i64 k, .int .i64 a], .bool false]) (by simp [results, Tryd.results33, go_sem, s0, s1]) rfl ?_
      exact ⟨⟨k, a⟩, false, rfl, fun h => (by cases h), fun _ => HRD.out, HB9.out⟩
    · have HM := hid hm
      obtain ⟨t1, ht1⟩ : ∃ t, t = str (ln11 ⟨k, a⟩) := ⟨_, rfl⟩
      have HT1 := hid ht1
      have hcmp : t1.toList = ln11 ⟨k, a⟩ := by rw [ht1, Lib.toList_data, list_str]
      have hcms : (str s).toList = s := by rw [Lib.toList_data, list_str]
      by_cases he : ln11 ⟨k, a⟩ = s
      · have HRD := hid (HYR.out hm he)
        have heq2 : (t1.toList == (str s).toList) = true := by rw [hcmp, hcms]; exact beq_iff_eq.2 he
        have heq3 : t1.toList = (str s).toList := by rw [hcmp, hcms]; exact he
        clear hm ht1 hcmp hcms he
        refine wp_region_held_drew (S := (fun w' => w'.cell? ⟨bi, 0, none⟩ = some (.int .i64 k) ∧ w'.cell? ⟨bi, 1, none⟩ = some (.int .i64 a) ∧ Vr11 w' ∧ Lies w' bi 34 #[.int .i64 k, .int .i64 a] ∧ ∃ z0 z1, Lies w' w.heap.size 34 #[.int .i64 z0, .int .i64 z1])) (by kernel_rfl) ?_ (fun hH0 => ?_)
        · exact ⟨x0, x1, HV4.out.later (Below.refl _ _).drew, HX4.out.drew, 0, 0, HR4.out.drew⟩
        refine wpAnyH_take (i := 0) (oi := { dst := some 28, op := Go.Op.load 34 (Go.Operand.tmp 9), type := 34, pos := "code.go:197", after := #[], guard := none }) (v := ?vv10) rfl (by kernel_rfl) (by kernel_rfl) (by kernel_rfl) (fun _ _ _ h => h) (Or.inl ⟨by rfl, ?hy10⟩) (by assumption) ?rr10
        case hy10 => intro w hSw; (try dsimp only at hSw); go_simp; all_goals with_reducible rfl
        try simp only [Act.put, List.setIfInBounds_toArray, List.set_cons_zero, List.set_cons_succ]
        refine wpAnyH_take (i := 1) (oi := { dst := some 29, op := Go.Op.load 34 (Go.Operand.tmp 9), type := 34, pos := "code.go:197", after := #[], guard := none }) (v := ?vv11) rfl (by kernel_rfl) (by kernel_rfl) (by kernel_rfl) (fun _ _ _ h => h) (Or.inl ⟨by rfl, ?hy11⟩) (by assumption) ?rr11
        case hy11 => intro w hSw; (try dsimp only at hSw); go_simp; all_goals with_reducible rfl
        try simp only [Act.put, List.setIfInBounds_toArray, List.set_cons_zero, List.set_cons_succ]
        refine wpAnyH_ready (rs := [2]) (by kernel_rfl) (by simp) ?_
        refine AllReadyH.cons (i := 2) (o := { dst := some 30, op := Go.Op.call { callee := Go.Callee.value (Go.Operand.func 31), args := #[Go.Operand.tmp 29], argTypes := #[34] }, type := 4, pos := "code.go:197", after := #[{ on := 1, ground := Go.Ground.data }], guard := none }) rfl (fun K hK => ?_) AllReadyH.nil
        go_simp
        go_at_call 31
        refine (pmay_any11 ⟨k, a⟩ _).mono ?_
        rintro e u1 ⟨rfl, hb⟩
        rw [HM.out]
        have HW1 := hid (then_w HB4.out.drew hb)
        refine hK.out _ _ ?_ (fun hH1 => ?_)
        · exact ⟨cell_later hb hH0.1, cell_later hb hH0.2.1, hH0.2.2.1.later hb, hH0.2.2.2.1.later hb, by obtain ⟨z0, z1, hl⟩ := hH0.2.2.2.2; exact ⟨z0, z1, hl.later hb⟩⟩
        clear hK K
        try simp only [Act.put, List.setIfInBounds_toArray, List.set_cons_zero, List.set_cons_succ]
        clear hb
        refine wpAnyH_take (i := 3) (oi := { dst := some 31, op := Go.Op.move (Go.Operand.tmp 30), type := 4, pos := "code.go:197", after := #[{ on := 2, ground := Go.Ground.data }, { on := 2, ground := Go.Ground.chain }], guard := none }) (v := ?vv12) rfl (by kernel_rfl) (by kernel_rfl) (by kernel_rfl) (fun _ _ _ h => h) (Or.inl ⟨by rfl, ?hy12⟩) (by assumption) ?rr12
        case hy12 => intro w hSw; (try dsimp only at hSw); go_simp; all_goals with_reducible rfl
        try simp only [Act.put, List.setIfInBounds_toArray, List.set_cons_zero, List.set_cons_succ]
        refine wpAnyH_take (i := 4) (oi := { dst := some 32, op := Go.Op.load 34 (Go.Operand.tmp 9), type := 34, pos := "code.go:197", after := #[{ on := 3, ground := Go.Ground.guard }], guard := some (3, true) }) (v := ?vv13) rfl (by kernel_rfl) (by kernel_rfl) (by kernel_rfl) (fun _ _ _ h => h) (Or.inl ⟨by rfl, ?hy13⟩) (by assumption) ?rr13
        case hy13 => intro w hSw; (try dsimp only at hSw); go_simp; all_goals with_reducible rfl
        try simp only [Act.put, List.setIfInBounds_toArray, List.set_cons_zero, List.set_cons_succ]
        refine wpAnyH_take (i := 6) (oi := { dst := some 34, op := Go.Op.move (Go.Operand.tmp 0), type := 9, pos := "code.go:197", after := #[{ on := 3, ground := Go.Ground.guard }, { on := 9, ground := Go.Ground.gcOnly Go.Departure.lateStores }], guard := some (3, true) }) (v := ?vv14) rfl (by kernel_rfl) (by kernel_rfl) (by kernel_rfl) (fun _ _ _ h => h) (Or.inl ⟨by rfl, ?hy14⟩) (by assumption) ?rr14
        case hy14 => intro w hSw; (try dsimp only at hSw); go_simp; all_goals with_reducible rfl
        try simp only [Act.put, List.setIfInBounds_toArray, List.set_cons_zero, List.set_cons_succ]
        refine wpAnyH_ready (rs := [5]) (by kernel_rfl) (by simp) ?_
        refine AllReadyH.cons (i := 5) (o := { dst := some 33, op := Go.Op.call { callee := Go.Callee.value (Go.Operand.func 29), args := #[Go.Operand.tmp 32], argTypes := #[34] }, type := 9, pos := "code.go:197", after := #[{ on := 4, ground := Go.Ground.data }, { on := 3, ground := Go.Ground.chain }, { on := 3, ground := Go.Ground.guard }], guard := some (3, true) }) rfl (fun K hK => ?_) AllReadyH.nil
        go_simp
        go_at_call 29
        refine (pline_any11 ⟨k, a⟩ HM.out _ hH1.2.2.1).mono ?_
        rintro e u2 ⟨rfl, hb⟩
        rw [← HT1.out]
        have HW2 := hid (then_w HW1.out hb)
        refine hK.out _ _ ?_ (fun hH2 => ?_)
        · exact ⟨cell_later hb hH1.1, cell_later hb hH1.2.1, hH1.2.2.1.later hb, hH1.2.2.2.1.later hb, by obtain ⟨z0, z1, hl⟩ := hH1.2.2.2.2; exact ⟨z0, z1, hl.later hb⟩⟩
        clear hK K
        try simp only [Act.put, List.setIfInBounds_toArray, List.set_cons_zero, List.set_cons_succ]
        clear hb
        refine wpAnyH_take (i := 7) (oi := { dst := some 35, op := Go.Op.binOp Go.BinOp.eql 9 (Go.Operand.tmp 33) (Go.Operand.tmp 34) 9, type := 4, pos := "code.go:197", after := #[{ on := 5, ground := Go.Ground.data }, { on := 6, ground := Go.Ground.data }, { on := 3, ground := Go.Ground.guard }, { on := 9, ground := Go.Ground.gcOnly Go.Departure.lateStores }], guard := some (3, true) }) (v := ?vv15) rfl (by kernel_rfl) (by kernel_rfl) (by kernel_rfl) (fun _ _ _ h => h) (Or.inl ⟨by rfl, ?hy15⟩) (by assumption) ?rr15
        case hy15 => intro w hSw; (try dsimp only at hSw); go_simp; all_goals with_reducible rfl
        try simp only [Act.put, List.setIfInBounds_toArray, List.set_cons_zero, List.set_cons_succ]
        refine wpAnyH_take (i := 8) (oi := { dst := some 36, op := Go.Op.pick (Go.Operand.tmp 31) (Go.Operand.tmp 35) (Go.Operand.const (Go.Value.bool false)), type := 4, pos := "code.go:197", after := #[{ on := 3, ground := Go.Ground.data }, { on := 7, ground := Go.Ground.data }, { on := 9, ground := Go.Ground.gcOnly Go.Departure.lateStores }], guard := none }) (v := ?vv16) rfl (by kernel_rfl) (by kernel_rfl) (by kernel_rfl) (fun _ _ _ h => h) (Or.inl ⟨by rfl, ?hy16⟩) (by assumption) ?rr16
        case hy16 => intro w hSw; (try dsimp only at hSw); go_simp; all_goals with_reducible rfl
        try simp only [Act.put, List.setIfInBounds_toArray, List.set_cons_zero, List.set_cons_succ]
        refine wpAnyH_ready (rs := [9]) (by kernel_rfl) (by simp) ?_
        refine AllReadyH.cons (i := 9) (o := { dst := none, op := Go.Op.store 34 (Go.Operand.tmp 2) (Go.Operand.tmp 28), type := 0, pos := "code.go:197", after := #[{ on := 0, ground := Go.Ground.data }, { on := 5, ground := Go.Ground.chain }, { on := 0, ground := Go.Ground.phase }, { on := 1, ground := Go.Ground.textOnly Go.Departure.lateStores }, { on := 2, ground := Go.Ground.textOnly Go.Departure.lateStoresUnsure }, { on := 3, ground := Go.Ground.textOnly Go.Departure.lateStores }, { on := 4, ground := Go.Ground.textOnly Go.Departure.lateStores }, { on := 5, ground := Go.Ground.textOnly Go.Departure.lateStoresUnsure }, { on := 6, ground := Go.Ground.textOnly Go.Departure.lateStores }, { on := 7, ground := Go.Ground.textOnly Go.Departure.lateStores }, { on := 8, ground := Go.Ground.textOnly Go.Departure.lateStores }], guard := none }) rfl (fun K hK => ?_) AllReadyH.nil
        obtain ⟨z0, z1, hl⟩ := hH2.2.2.2.2
        have r0 := hl.cell 0
        have r1 := hl.cell 1
        have f0 := hl.frozen 0
        have f1 := hl.frozen 1
        simp only [List.getElem?_toArray, List.getElem?_cons_zero, List.getElem?_cons_succ] at r0 r1
        have HL9 := hid ((hl.set_ 0 (.int .i64 k)).set_ 1 (.int .i64 a))
        have HX9 := hid ((hH2.2.2.2.1.far (p := ⟨w.heap.size, 0, none⟩) HNE.out (.int .i64 k)).far (p := ⟨w.heap.size, 1, none⟩) HNE.out (.int .i64 a))
        have HB9 : Hid (Below w.heap.size w ((u2.setCell ⟨w.heap.size, 0, none⟩ (.int .i64 k)).setCell ⟨w.heap.size, 1, none⟩ (.int .i64 a))) := (HW2.out.setCell (p := ⟨w.heap.size, 0, none⟩) (Nat.le_refl _) _).setCell (p := ⟨w.heap.size, 1, none⟩) (Nat.le_refl _) _
        clear hl
        go_simp
        refine hK.out _ _ ?_ (fun hH3 => ?_)
        · exact ⟨by have := HX9.out.cell 0; simpa using this, by have := HX9.out.cell 1; simpa using this, HV.out.later HB9.out, HX9.out, k, a, by have := HL9.out; simpa using this⟩
        clear hK K
        try simp only [Act.put, List.setIfInBounds_toArray, List.set_cons_zero, List.set_cons_succ]
        clear r0 r1 f0 f1
        refine wpAnyH_take (i := 10) (oi := { dst := some 3, op := Go.Op.assign (Go.Operand.tmp 36), type := 4, pos := "code.go:197", after := #[{ on := 8, ground := Go.Ground.data }, { on := 9, ground := Go.Ground.chain }, { on := 0, ground := Go.Ground.phase }, { on := 1, ground := Go.Ground.phase }, { on := 2, ground := Go.Ground.phase }, { on := 3, ground := Go.Ground.phase }, { on := 4, ground := Go.Ground.phase }, { on := 5, ground := Go.Ground.phase }, { on := 6, ground := Go.Ground.phase }, { on := 7, ground := Go.Ground.phase }, { on := 8, ground := Go.Ground.phase }, { on := 9, ground := Go.Ground.phase }], guard := none }) (v := ?vv17) rfl (by kernel_rfl) (by kernel_rfl) (by kernel_rfl) (fun _ _ _ h => h) (Or.inl ⟨by rfl, ?hy17⟩) (by assumption) ?rr17
        case hy17 => intro w hSw; (try dsimp only at hSw); go_simp; all_goals with_reducible rfl
        try simp only [Act.put, List.setIfInBounds_toArray, List.set_cons_zero, List.set_cons_succ]
        refine wpAnyH_done (by kernel_rfl) ?_ _
        have s0 := HL9.out.cell 0
        have s1 := HL9.out.cell 1
        simp only [List.setIfInBounds_toArray, List.set_cons_zero, List.set_cons_succ, List.getElem?_toArray, List.getElem?_cons_zero, List.getElem?_cons_succ] at s0 s1
        go_wp2_with fail
        refine bodyPost_ret (v := .tuple #[.agg #[.int .i64 k, .int .i64 a], .bool true]) (by simp [results, Tryd.results33, go_sem, s0, s1]) rfl ?_
        exact ⟨⟨k, a⟩, true, rfl, fun _ => HRD.out, fun h => (by cases h), HB9.out⟩
      · have HRD := hid (HNR.out (fun _ h => he h))
        have hne2 : (t1.toList == (str s).toList) = false := by rw [hcmp, hcms]; exact beq_eq_false_iff_ne.2 he
        have hne3 : ¬ t1.toList = (str s).toList := by rw [hcmp, hcms]; exact he
        clear hm ht1 hcmp hcms he
        refine wp_region_held_drew (S := (fun w' => w'.cell? ⟨bi, 0, none⟩ = some (.int .i64 k) ∧ w'.cell? ⟨bi, 1, none⟩ = some (.int .i64 a) ∧ Vr11 w' ∧ Lies w' bi 34 #[.int .i64 k, .int .i64 a] ∧ ∃ z0 z1, Lies w' w.heap.size 34 #[.int .i64 z0, .int .i64 z1])) (by kernel_rfl) ?_ (fun hH0 => ?_)
        · exact ⟨x0, x1, HV4.out.later (Below.refl _ _).drew, HX4.out.drew, 0, 0, HR4.out.drew⟩
        refine wpAnyH_take (i := 0) (oi := { dst := some 28, op := Go.Op.load 34 (Go.Operand.tmp 9), type := 34, pos := "code.go:197", after := #[], guard := none }) (v := ?vv18) rfl (by kernel_rfl) (by kernel_rfl) (by kernel_rfl) (fun _ _ _ h => h) (Or.inl ⟨by rfl, ?hy18⟩) (by assumption) ?rr18
        case hy18 => intro w hSw; (try dsimp only at hSw); go_simp; all_goals with_reducible rfl
        try simp only [Act.put, List.setIfInBounds_toArray, List.set_cons_zero, List.set_cons_succ]
        refine wpAnyH_take (i := 1) (oi := { dst := some 29, op := Go.Op.load 34 (Go.Operand.tmp 9), type := 34, pos := "code.go:197", after := #[], guard := none }) (v := ?vv19) rfl (by kernel_rfl) (by kernel_rfl) (by kernel_rfl) (fun _ _ _ h => h) (Or.inl ⟨by rfl, ?hy19⟩) (by assumption) ?rr19
        case hy19 => intro w hSw; (try dsimp only at hSw); go_simp; all_goals with_reducible rfl
        try simp only [Act.put, List.setIfInBounds_toArray, List.set_cons_zero, List.set_cons_succ]
        refine wpAnyH_ready (rs := [2]) (by kernel_rfl) (by simp) ?_
        refine AllReadyH.cons (i := 2) (o := { dst := some 30, op := Go.Op.call { callee := Go.Callee.value (Go.Operand.func 31), args := #[Go.Operand.tmp 29], argTypes := #[34] }, type := 4, pos := "code.go:197", after := #[{ on := 1, ground := Go.Ground.data }], guard := none }) rfl (fun K hK => ?_) AllReadyH.nil
        go_simp
        go_at_call 31
        refine (pmay_any11 ⟨k, a⟩ _).mono ?_
        rintro e u1 ⟨rfl, hb⟩
        rw [HM.out]
        have HW1 := hid (then_w HB4.out.drew hb)
        refine hK.out _ _ ?_ (fun hH1 => ?_)
        · exact ⟨cell_later hb hH0.1, cell_later hb hH0.2.1, hH0.2.2.1.later hb, hH0.2.2.2.1.later hb, by obtain ⟨z0, z1, hl⟩ := hH0.2.2.2.2; exact ⟨z0, z1, hl.later hb⟩⟩
        clear hK K
        try simp only [Act.put, List.setIfInBounds_toArray, List.set_cons_zero, List.set_cons_succ]
        clear hb
        refine wpAnyH_take (i := 3) (oi := { dst := some 31, op := Go.Op.move (Go.Operand.tmp 30), type := 4, pos := "code.go:197", after := #[{ on := 2, ground := Go.Ground.data }, { on := 2, ground := Go.Ground.chain }], guard := none }) (v := ?vv20) rfl (by kernel_rfl) (by kernel_rfl) (by kernel_rfl) (fun _ _ _ h => h) (Or.inl ⟨by rfl, ?hy20⟩) (by assumption) ?rr20
        case hy20 => intro w hSw; (try dsimp only at hSw); go_simp; all_goals with_reducible rfl
        try simp only [Act.put, List.setIfInBounds_toArray, List.set_cons_zero, List.set_cons_succ]
        refine wpAnyH_take (i := 4) (oi := { dst := some 32, op := Go.Op.load 34 (Go.Operand.tmp 9), type := 34, pos := "code.go:197", after := #[{ on := 3, ground := Go.Ground.guard }], guard := some (3, true) }) (v := ?vv21) rfl (by kernel_rfl) (by kernel_rfl) (by kernel_rfl) (fun _ _ _ h => h) (Or.inl ⟨by rfl, ?hy21⟩) (by assumption) ?rr21
        case hy21 => intro w hSw; (try dsimp only at hSw); go_simp; all_goals with_reducible rfl
        try simp only [Act.put, List.setIfInBounds_toArray, List.set_cons_zero, List.set_cons_succ]
        refine wpAnyH_take (i := 6) (oi := { dst := some 34, op := Go.Op.move (Go.Operand.tmp 0), type := 9, pos := "code.go:197", after := #[{ on := 3, ground := Go.Ground.guard }, { on := 9, ground := Go.Ground.gcOnly Go.Departure.lateStores }], guard := some (3, true) }) (v := ?vv22) rfl (by kernel_rfl) (by kernel_rfl) (by kernel_rfl) (fun _ _ _ h => h) (Or.inl ⟨by rfl, ?hy22⟩) (by assumption) ?rr22
        case hy22 => intro w hSw; (try dsimp only at hSw); go_simp; all_goals with_reducible rfl
        try simp only [Act.put, List.setIfInBounds_toArray, List.set_cons_zero, List.set_cons_succ]
        refine wpAnyH_ready (rs := [5]) (by kernel_rfl) (by simp) ?_
        refine AllReadyH.cons (i := 5) (o := { dst := some 33, op := Go.Op.call { callee := Go.Callee.value (Go.Operand.func 29), args := #[Go.Operand.tmp 32], argTypes := #[34] }, type := 9, pos := "code.go:197", after := #[{ on := 4, ground := Go.Ground.data }, { on := 3, ground := Go.Ground.chain }, { on := 3, ground := Go.Ground.guard }], guard := some (3, true) }) rfl (fun K hK => ?_) AllReadyH.nil
        go_simp
        go_at_call 29
        refine (pline_any11 ⟨k, a⟩ HM.out _ hH1.2.2.1).mono ?_
        rintro e u2 ⟨rfl, hb⟩
        rw [← HT1.out]
        have HW2 := hid (then_w HW1.out hb)
        refine hK.out _ _ ?_ (fun hH2 => ?_)
        · exact ⟨cell_later hb hH1.1, cell_later hb hH1.2.1, hH1.2.2.1.later hb, hH1.2.2.2.1.later hb, by obtain ⟨z0, z1, hl⟩ := hH1.2.2.2.2; exact ⟨z0, z1, hl.later hb⟩⟩
        clear hK K
        try simp only [Act.put, List.setIfInBounds_toArray, List.set_cons_zero, List.set_cons_succ]
        clear hb
        refine wpAnyH_take (i := 7) (oi := { dst := some 35, op := Go.Op.binOp Go.BinOp.eql 9 (Go.Operand.tmp 33) (Go.Operand.tmp 34) 9, type := 4, pos := "code.go:197", after := #[{ on := 5, ground := Go.Ground.data }, { on := 6, ground := Go.Ground.data }, { on := 3, ground := Go.Ground.guard }, { on := 9, ground := Go.Ground.gcOnly Go.Departure.lateStores }], guard := some (3, true) }) (v := ?vv23) rfl (by kernel_rfl) (by kernel_rfl) (by kernel_rfl) (fun _ _ _ h => h) (Or.inl ⟨by rfl, ?hy23⟩) (by assumption) ?rr23
        case hy23 => intro w hSw; (try dsimp only at hSw); go_simp; all_goals with_reducible rfl
        try simp only [Act.put, List.setIfInBounds_toArray, List.set_cons_zero, List.set_cons_succ]
        refine wpAnyH_take (i := 8) (oi := { dst := some 36, op := Go.Op.pick (Go.Operand.tmp 31) (Go.Operand.tmp 35) (Go.Operand.const (Go.Value.bool false)), type := 4, pos := "code.go:197", after := #[{ on := 3, ground := Go.Ground.data }, { on := 7, ground := Go.Ground.data }, { on := 9, ground := Go.Ground.gcOnly Go.Departure.lateStores }], guard := none }) (v := ?vv24) rfl (by kernel_rfl) (by kernel_rfl) (by kernel_rfl) (fun _ _ _ h => h) (Or.inl ⟨by rfl, ?hy24⟩) (by assumption) ?rr24
        case hy24 => intro w hSw; (try dsimp only at hSw); go_simp; all_goals with_reducible rfl
        try simp only [Act.put, List.setIfInBounds_toArray, List.set_cons_zero, List.set_cons_succ]
        refine wpAnyH_ready (rs := [9]) (by kernel_rfl) (by simp) ?_
        refine AllReadyH.cons (i := 9) (o := { dst := none, op := Go.Op.store 34 (Go.Operand.tmp 2) (Go.Operand.tmp 28), type := 0, pos := "code.go:197", after := #[{ on := 0, ground := Go.Ground.data }, { on := 5, ground := Go.Ground.chain }, { on := 0, ground := Go.Ground.phase }, { on := 1, ground := Go.Ground.textOnly Go.Departure.lateStores }, { on := 2, ground := Go.Ground.textOnly Go.Departure.lateStoresUnsure }, { on := 3, ground := Go.Ground.textOnly Go.Departure.lateStores }, { on := 4, ground := Go.Ground.textOnly Go.Departure.lateStores }, { on := 5, ground := Go.Ground.textOnly Go.Departure.lateStoresUnsure }, { on := 6, ground := Go.Ground.textOnly Go.Departure.lateStores }, { on := 7, ground := Go.Ground.textOnly Go.Departure.lateStores }, { on := 8, ground := Go.Ground.textOnly Go.Departure.lateStores }], guard := none }) rfl (fun K hK => ?_) AllReadyH.nil
        obtain ⟨z0, z1, hl⟩ := hH2.2.2.2.2
        have r0 := hl.cell 0
        have r1 := hl.cell 1
        have f0 := hl.frozen 0
        have f1 := hl.frozen 1
        simp only [List.getElem?_toArray, List.getElem?_cons_zero, List.getElem?_cons_succ] at r0 r1
        have HL9 := hid ((hl.set_ 0 (.int .i64 k)).set_ 1 (.int .i64 a))
        have HX9 := hid ((hH2.2.2.2.1.far (p := ⟨w.heap.size, 0, none⟩) HNE.out (.int .i64 k)).far (p := ⟨w.heap.size, 1, none⟩) HNE.out (.int .i64 a))
        have HB9 : Hid (Below w.heap.size w ((u2.setCell ⟨w.heap.size, 0, none⟩ (.int .i64 k)).setCell ⟨w.heap.size, 1, none⟩ (.int .i64 a))) := (HW2.out.setCell (p := ⟨w.heap.size, 0, none⟩) (Nat.le_refl _) _).setCell (p := ⟨w.heap.size, 1, none⟩) (Nat.le_refl _) _
        clear hl
        go_simp
        refine hK.out _ _ ?_ (fun hH3 => ?_)
        · exact ⟨by have := HX9.out.cell 0; simpa using this, by have := HX9.out.cell 1; simpa using this, HV.out.later HB9.out, HX9.out, k, a, by have := HL9.out; simpa using this⟩
        clear hK K
        try simp only [Act.put, List.setIfInBounds_toArray, List.set_cons_zero, List.set_cons_succ]
        clear r0 r1 f0 f1
        refine wpAnyH_take (i := 10) (oi := { dst := some 3, op := Go.Op.assign (Go.Operand.tmp 36), type := 4, pos := "code.go:197", after := #[{ on := 8, ground := Go.Ground.data }, { on := 9, ground := Go.Ground.chain }, { on := 0, ground := Go.Ground.phase }, { on := 1, ground := Go.Ground.phase }, { on := 2, ground := Go.Ground.phase }, { on := 3, ground := Go.Ground.phase }, { on := 4, ground := Go.Ground.phase }, { on := 5, ground := Go.Ground.phase }, { on := 6, ground := Go.Ground.phase }, { on := 7, ground := Go.Ground.phase }, { on := 8, ground := Go.Ground.phase }, { on := 9, ground := Go.Ground.phase }], guard := none }) (v := ?vv25) rfl (by kernel_rfl) (by kernel_rfl) (by kernel_rfl) (fun _ _ _ h => h) (Or.inl ⟨by rfl, ?hy25⟩) (by assumption) ?rr25
        case hy25 => intro w hSw; (try dsimp only at hSw); go_simp; all_goals with_reducible rfl
        try simp only [Act.put, List.setIfInBounds_toArray, List.set_cons_zero, List.set_cons_succ]
        refine wpAnyH_done (by kernel_rfl) ?_ _
        have s0 := HL9.out.cell 0
        have s1 := HL9.out.cell 1
        simp only [List.setIfInBounds_toArray, List.set_cons_zero, List.set_cons_succ, List.getElem?_toArray, List.getElem?_cons_zero, List.getElem?_cons_succ] at s0 s1
        go_wp2_with fail
        refine bodyPost_ret (v := .tuple #[.agg #[.int .i64 k, .int .i64 a], .bool false]) (by simp [results, Tryd.results33, go_sem, s0, s1]) rfl ?_
        exact ⟨⟨k, a⟩, false, rfl, fun h => (by cases h), fun _ => HRD.out, HB9.out⟩
end Go.Proofs.YtobelbaeaamkkaaDoor
