/- The program's word on an instruction's line. -/
import Derived.Test.YtobelbaeaamkkaaDoorTF11
import Derived.Test.YtobelbaeaamkkaaDoorSF11
namespace Go.Proofs.YtobelbaeaamkkaaDoor
open Go.RowKit
set_option maxRecDepth 100000
set_option maxHeartbeats 1000000 in
theorem pline_any11 (x : In) (hm : may11 x = true) (w : World) (hv : Vr11 w) : Calls Tryd.prog 29 #[.agg #[.int .i64 x.op, .int .i64 x.a]] w fun e w' => e = .returned (.string (str (ln11 x))) ∧ Below w.heap.size w w' := by
  obtain ⟨p1, p2, p3, p4⟩ := may_parts11 hm
  obtain ⟨op, a⟩ := x
  simp only at p1 p2 p3 p4
  obtain ⟨k, rfl⟩ : ∃ k : Nat, op = k := ⟨op.toNat, by omega⟩
  have hk : k < 19 := by omega
  show Calls Tryd.prog 29 #[.agg #[.int .i64 (k : Int), .int .i64 a]] w _
  obtain ⟨t1, ht1⟩ : ∃ t, t = str (wd11 (k : Int)) := ⟨_, rfl⟩
  have ht1s : t1.size ≤ 8 := by rw [ht1, str_size]; exact wd_len11 k hk
  have HT1 := hid ht1
  have hb0 := below_alloc w (.cells #[.int .i64 (k : Int), .int .i64 a] 34)
  have hv0 := hv.later hb0
  have g0 := hv0.word k hk
  rw [← ht1] at g0
  have HG := hid g0
  have HV0 := hid hv0
  have HB0 := hid hb0
  have HX0 := hid (Lies.new w 34 #[.int .i64 (k : Int), .int .i64 a])
  have x0 := HX0.out.cell 0
  have x1 := HX0.out.cell 1
  simp only [List.getElem?_toArray, List.getElem?_cons_zero, List.getElem?_cons_succ] at x0 x1
  have H32 : Hid ((⟨#[32]⟩ : ByteArray) = str [32]) := rfl
  have hk0 : (0 : Int) ≤ (k : Int) := by omega
  have hk1 : (k : Int) < 19 := by omega
  have hk2 : ((k : Int)).toNat = k := by omega
  clear ht1 hm hb0 hv0 hv
  go_enter Tryd.func29, Tryd.ntmps29
  go_wp2_with fail
  refine (phas_any11 (k : Int) _).mono ?_
  rintro e w1 ⟨rfl, rfl⟩
  clear g0
  cases hno : no11 (k : Int)
  · have L1 : Hid (¬ ((k : Int) = 8 ∨ (k : Int) = 9) → ln11 ⟨(k : Int), a⟩ = wd11 (k : Int) ++ [32] ++ dg11 a) := fun h => by
      unfold ln11; rw [if_neg (by rw [hno]; decide), if_neg h]
    have L2 : Hid ((k : Int) = 8 ∨ (k : Int) = 9 → ln11 ⟨(k : Int), a⟩ = wd11 (k : Int) ++ [32] ++ dg11 (a / 8) ++ [32] ++ dg11 (a % 8)) := fun h => by
      unfold ln11; rw [if_neg (by rw [hno]; decide), if_pos h]
    clear hno
    by_cases h89 : (k : Int) = 8 ∨ (k : Int) = 9
    · obtain ⟨s1, hs1⟩ : ∃ t, t = str (dg11 (a / 8)) := ⟨_, rfl⟩
      obtain ⟨s2, hs2⟩ : ∃ t, t = str (dg11 (a % 8)) := ⟨_, rfl⟩
      have hs1s : s1.size ≤ 3 := by rw [hs1, str_size]; exact dg_len11 _
      have hs2s : s2.size ≤ 3 := by rw [hs2, str_size]; exact dg_len11 _
      have c1 : ¬ 9223372036854775807 < t1.size + 1 := by omega
      have c2 : ¬ 9223372036854775807 < t1.size + 1 + s1.size := by omega
      have c3 : ¬ 9223372036854775807 < t1.size + 1 + s1.size + 1 := by omega
      have c4 : ¬ 9223372036854775807 < t1.size + 1 + s1.size + 1 + s2.size := by omega
      have HS1 := hid hs1
      have HS2 := hid hs2
      have HQ : Hid (IntKind.i64.wrap (a.tdiv 8) = a / 8) := by show _ = _; rw [Int.tdiv_eq_ediv_of_nonneg p3, IntWalk.i64_in _ ⟨by omega, by omega⟩]
      have HM : Hid (a.tmod 8 = a % 8) := Int.tmod_eq_emod_of_nonneg p3
      have HLN : Hid (str (ln11 ⟨(k : Int), a⟩) = t1 ++ ⟨#[32]⟩ ++ s1 ++ ⟨#[32]⟩ ++ s2) := by show _ = _; rw [L2.out h89, HT1.out, hs1, hs2, H32.out, str_append, str_append, str_append, str_append]
      have HSD : Hid (decide ((k : Int) = 8 ∨ (k : Int) = 9) = true) := decide_eq_true h89
      clear hs1 hs2 ht1s hs1s hs2s L1 L2 h89
      go_wp2_with fail
      refine (psend_any11 (k : Int) _).mono ?_
      rintro e w1 ⟨rfl, rfl⟩
      rw [HSD.out]
      go_upto_region 5 with fail
      refine wp_region_held_drew (S := (fun w' => w'.cell? ⟨w.heap.size, 0, none⟩ = some (.int .i64 (k : Int)) ∧ w'.cell? ⟨w.heap.size, 1, none⟩ = some (.int .i64 a) ∧ Vr11 w')) (by kernel_rfl) ?_ (fun hH0 => ?_)
      · exact ⟨x0, x1, HV0.out.later (Below.refl _ _).drew⟩
      refine wpAnyH_take (i := 0) (oi := { dst := some 16, op := Go.Op.move (Go.Operand.tmp 3), type := 9, pos := "code.go:169", after := #[], guard := none }) (v := ?vv1) rfl (by kernel_rfl) (by kernel_rfl) (by kernel_rfl) (fun _ _ _ h => h) (Or.inl ⟨by rfl, ?hy1⟩) (by assumption) ?rr1
      case hy1 => intro w hSw; (try dsimp only at hSw); go_simp; all_goals with_reducible rfl
      try simp only [Act.put, List.setIfInBounds_toArray, List.set_cons_zero, List.set_cons_succ]
      refine wpAnyH_take (i := 1) (oi := { dst := some 17, op := Go.Op.binOp Go.BinOp.add 9 (Go.Operand.tmp 16) (Go.Operand.const (Go.Value.string { data := #[32] })) 9, type := 9, pos := "code.go:169", after := #[{ on := 0, ground := Go.Ground.data }], guard := none }) (v := ?vv2) rfl (by kernel_rfl) (by kernel_rfl) (by kernel_rfl) (fun _ _ _ h => h) (Or.inl ⟨by rfl, ?hy2⟩) (by assumption) ?rr2
      case hy2 => intro w hSw; (try dsimp only at hSw); go_simp; all_goals with_reducible rfl
      try simp only [Act.put, List.setIfInBounds_toArray, List.set_cons_zero, List.set_cons_succ]
      refine wpAnyH_take (i := 2) (oi := { dst := some 18, op := Go.Op.fieldAddr 34 (Go.Operand.tmp 1) 1, type := 0, pos := "code.go:169", after := #[], guard := none }) (v := ?vv3) rfl (by kernel_rfl) (by kernel_rfl) (by kernel_rfl) (fun _ _ _ h => h) (Or.inl ⟨by rfl, ?hy3⟩) (by assumption) ?rr3
      case hy3 => intro w hSw; (try dsimp only at hSw); go_simp; all_goals with_reducible rfl
      try simp only [Act.put, List.setIfInBounds_toArray, List.set_cons_zero, List.set_cons_succ]
      refine wpAnyH_take (i := 3) (oi := { dst := some 19, op := Go.Op.load 3 (Go.Operand.tmp 18), type := 3, pos := "code.go:169", after := #[{ on := 2, ground := Go.Ground.data }], guard := none }) (v := ?vv4) rfl (by kernel_rfl) (by kernel_rfl) (by kernel_rfl) (fun _ _ _ h => h) (Or.inl ⟨by rfl, ?hy4⟩) (by assumption) ?rr4
      case hy4 => intro w hSw; (try dsimp only at hSw); go_simp; all_goals with_reducible rfl
      try simp only [Act.put, List.setIfInBounds_toArray, List.set_cons_zero, List.set_cons_succ]
      refine wpAnyH_take (i := 4) (oi := { dst := some 20, op := Go.Op.binOp Go.BinOp.quo 3 (Go.Operand.tmp 19) (Go.Operand.const (Go.Value.int Go.IntKind.i64 8)) 3, type := 3, pos := "code.go:169", after := #[{ on := 3, ground := Go.Ground.data }], guard := none }) (v := ?vv5) rfl (by kernel_rfl) (by kernel_rfl) (by kernel_rfl) (fun _ _ _ h => h) (Or.inl ⟨by rfl, ?hy5⟩) (by assumption) ?rr5
      case hy5 => intro w hSw; (try dsimp only at hSw); go_simp; all_goals with_reducible rfl
      try simp only [Act.put, List.setIfInBounds_toArray, List.set_cons_zero, List.set_cons_succ]
      refine wpAnyH_take (i := 8) (oi := { dst := some 24, op := Go.Op.fieldAddr 34 (Go.Operand.tmp 1) 1, type := 0, pos := "code.go:169", after := #[], guard := none }) (v := ?vv6) rfl (by kernel_rfl) (by kernel_rfl) (by kernel_rfl) (fun _ _ _ h => h) (Or.inl ⟨by rfl, ?hy6⟩) (by assumption) ?rr6
      case hy6 => intro w hSw; (try dsimp only at hSw); go_simp; all_goals with_reducible rfl
      try simp only [Act.put, List.setIfInBounds_toArray, List.set_cons_zero, List.set_cons_succ]
      refine wpAnyH_take (i := 9) (oi := { dst := some 25, op := Go.Op.load 3 (Go.Operand.tmp 24), type := 3, pos := "code.go:169", after := #[{ on := 8, ground := Go.Ground.data }], guard := none }) (v := ?vv7) rfl (by kernel_rfl) (by kernel_rfl) (by kernel_rfl) (fun _ _ _ h => h) (Or.inl ⟨by rfl, ?hy7⟩) (by assumption) ?rr7
      case hy7 => intro w hSw; (try dsimp only at hSw); go_simp; all_goals with_reducible rfl
      try simp only [Act.put, List.setIfInBounds_toArray, List.set_cons_zero, List.set_cons_succ]
      refine wpAnyH_take (i := 10) (oi := { dst := some 26, op := Go.Op.binOp Go.BinOp.rem 3 (Go.Operand.tmp 25) (Go.Operand.const (Go.Value.int Go.IntKind.i64 8)) 3, type := 3, pos := "code.go:169", after := #[{ on := 9, ground := Go.Ground.data }], guard := none }) (v := ?vv8) rfl (by kernel_rfl) (by kernel_rfl) (by kernel_rfl) (fun _ _ _ h => h) (Or.inl ⟨by rfl, ?hy8⟩) (by assumption) ?rr8
      case hy8 => intro w hSw; (try dsimp only at hSw); go_simp; all_goals with_reducible rfl
      try simp only [Act.put, List.setIfInBounds_toArray, List.set_cons_zero, List.set_cons_succ]
      refine wpAnyH_ready (rs := [5]) (by kernel_rfl) (by simp) ?_
      refine AllReadyH.cons (i := 5) (o := { dst := some 21, op := Go.Op.call { callee := Go.Callee.value (Go.Operand.func 41), args := #[Go.Operand.tmp 20], argTypes := #[3] }, type := 9, pos := "code.go:169", after := #[{ on := 4, ground := Go.Ground.data }], guard := none }) rfl (fun K hK => ?_) AllReadyH.nil
      go_simp
      go_at_call 41
      rw [HQ.out]
      refine (itoa_any11 (a / 8) (by omega) (by omega) _ hH0.2.2).mono ?_
      rintro e u1 ⟨rfl, hb⟩
      rw [← HS1.out]
      have HV1 := hid (then_w (Below.refl (w.alloc (.cells #[.int .i64 (k : Int), .int .i64 a] 34)).heap.size (w.alloc (.cells #[.int .i64 (k : Int), .int .i64 a] 34))).drew hb)
      refine hK.out _ _ ?_ (fun hH1 => ?_)
      · exact ⟨cell_later hb hH0.1, cell_later hb hH0.2.1, hH0.2.2.later hb⟩
      clear hK K
      try simp only [Act.put, List.setIfInBounds_toArray, List.set_cons_zero, List.set_cons_succ]
      clear hb
      refine wpAnyH_take (i := 6) (oi := { dst := some 22, op := Go.Op.binOp Go.BinOp.add 9 (Go.Operand.tmp 17) (Go.Operand.tmp 21) 9, type := 9, pos := "code.go:169", after := #[{ on := 1, ground := Go.Ground.data }, { on := 5, ground := Go.Ground.data }], guard := none }) (v := ?vv9) rfl (by kernel_rfl) (by kernel_rfl) (by kernel_rfl) (fun _ _ _ h => h) (Or.inl ⟨by rfl, ?hy9⟩) (by assumption) ?rr9
      case hy9 => intro w hSw; (try dsimp only at hSw); go_simp; all_goals with_reducible rfl
      try simp only [Act.put, List.setIfInBounds_toArray, List.set_cons_zero, List.set_cons_succ]
      refine wpAnyH_take (i := 7) (oi := { dst := some 23, op := Go.Op.binOp Go.BinOp.add 9 (Go.Operand.tmp 22) (Go.Operand.const (Go.Value.string { data := #[32] })) 9, type := 9, pos := "code.go:169", after := #[{ on := 6, ground := Go.Ground.data }], guard := none }) (v := ?vv10) rfl (by kernel_rfl) (by kernel_rfl) (by kernel_rfl) (fun _ _ _ h => h) (Or.inl ⟨by rfl, ?hy10⟩) (by assumption) ?rr10
      case hy10 => intro w hSw; (try dsimp only at hSw); go_simp; all_goals with_reducible rfl
      try simp only [Act.put, List.setIfInBounds_toArray, List.set_cons_zero, List.set_cons_succ]
      refine wpAnyH_ready (rs := [11]) (by kernel_rfl) (by simp) ?_
      refine AllReadyH.cons (i := 11) (o := { dst := some 27, op := Go.Op.call { callee := Go.Callee.value (Go.Operand.func 41), args := #[Go.Operand.tmp 26], argTypes := #[3] }, type := 9, pos := "code.go:169", after := #[{ on := 10, ground := Go.Ground.data }, { on := 5, ground := Go.Ground.chain }], guard := none }) rfl (fun K hK => ?_) AllReadyH.nil
      go_simp
      go_at_call 41
      rw [HM.out]
      refine (itoa_any11 (a % 8) (by omega) (by omega) _ hH1.2.2).mono ?_
      rintro e u2 ⟨rfl, hb⟩
      rw [← HS2.out]
      have HV2 := hid (then_w HV1.out hb)
      refine hK.out _ _ ?_ (fun hH2 => ?_)
      · exact ⟨cell_later hb hH1.1, cell_later hb hH1.2.1, hH1.2.2.later hb⟩
      clear hK K
      try simp only [Act.put, List.setIfInBounds_toArray, List.set_cons_zero, List.set_cons_succ]
      clear hb
      refine wpAnyH_take (i := 12) (oi := { dst := some 28, op := Go.Op.binOp Go.BinOp.add 9 (Go.Operand.tmp 23) (Go.Operand.tmp 27) 9, type := 9, pos := "code.go:169", after := #[{ on := 7, ground := Go.Ground.data }, { on := 11, ground := Go.Ground.data }], guard := none }) (v := ?vv11) rfl (by kernel_rfl) (by kernel_rfl) (by kernel_rfl) (fun _ _ _ h => h) (Or.inl ⟨by rfl, ?hy11⟩) (by assumption) ?rr11
      case hy11 => intro w hSw; (try dsimp only at hSw); go_simp; all_goals with_reducible rfl
      try simp only [Act.put, List.setIfInBounds_toArray, List.set_cons_zero, List.set_cons_succ]
      refine wpAnyH_take (i := 13) (oi := { dst := some 2, op := Go.Op.assign (Go.Operand.tmp 28), type := 9, pos := "code.go:169", after := #[{ on := 12, ground := Go.Ground.data }, { on := 11, ground := Go.Ground.chain }, { on := 0, ground := Go.Ground.phase }, { on := 1, ground := Go.Ground.phase }, { on := 2, ground := Go.Ground.phase }, { on := 3, ground := Go.Ground.phase }, { on := 4, ground := Go.Ground.phase }, { on := 5, ground := Go.Ground.phase }, { on := 6, ground := Go.Ground.phase }, { on := 7, ground := Go.Ground.phase }, { on := 8, ground := Go.Ground.phase }, { on := 9, ground := Go.Ground.phase }, { on := 10, ground := Go.Ground.phase }, { on := 11, ground := Go.Ground.phase }, { on := 12, ground := Go.Ground.phase }], guard := none }) (v := ?vv12) rfl (by kernel_rfl) (by kernel_rfl) (by kernel_rfl) (fun _ _ _ h => h) (Or.inl ⟨by rfl, ?hy12⟩) (by assumption) ?rr12
      case hy12 => intro w hSw; (try dsimp only at hSw); go_simp; all_goals with_reducible rfl
      try simp only [Act.put, List.setIfInBounds_toArray, List.set_cons_zero, List.set_cons_succ]
      refine wpAnyH_done (by kernel_rfl) ?_ _
      go_wp2_with fail
      go_ret
      exact ⟨by rw [HLN.out]; rfl, then_w HB0.out HV2.out⟩
    · obtain ⟨s1, hs1⟩ : ∃ t, t = str (dg11 a) := ⟨_, rfl⟩
      have hs1s : s1.size ≤ 3 := by rw [hs1, str_size]; exact dg_len11 _
      have c1 : ¬ 9223372036854775807 < t1.size + 1 := by omega
      have c2 : ¬ 9223372036854775807 < t1.size + 1 + s1.size := by omega
      have HS1 := hid hs1
      have HLN : Hid (str (ln11 ⟨(k : Int), a⟩) = t1 ++ ⟨#[32]⟩ ++ s1) := by show _ = _; rw [L1.out h89, HT1.out, hs1, H32.out, str_append, str_append]
      have HSD : Hid (decide ((k : Int) = 8 ∨ (k : Int) = 9) = false) := decide_eq_false h89
      clear hs1 ht1s hs1s L1 L2 h89
      go_wp2_with fail
      refine (psend_any11 (k : Int) _).mono ?_
      rintro e w1 ⟨rfl, rfl⟩
      rw [HSD.out]
      go_wp2_with fail
      refine (itoa_any11 a (by omega) (by omega) _ HV0.out).mono ?_
      rintro e w2 ⟨rfl, hb⟩
      rw [← HS1.out]
      have HB2 := hid (then_w HB0.out hb)
      clear hb x0 x1
      go_wp2_with fail
      go_ret
      exact ⟨by rw [HLN.out]; rfl, HB2.out⟩
  · have HLN : Hid (str (ln11 ⟨(k : Int), a⟩) = t1) := by show _ = _; unfold ln11; rw [if_pos hno, HT1.out]
    clear hno
    go_wp2_with fail
    go_ret
    exact ⟨by rw [HLN.out]; rfl, HB0.out⟩
end Go.Proofs.YtobelbaeaamkkaaDoor
