/- The document's word on an instruction's line. -/
import Derived.Test.YtobelbaeaamkkaaDoorSD11
import Derived.Test.YtobelbaeaamkkaaDoorDG11
namespace Go.Proofs.YtobelbaeaamkkaaDoor
open Go.RowKit
set_option maxRecDepth 100000
theorem wd_len11 : ∀ (k : Nat), k < 19 → (wd11 (k : Int)).length ≤ 8
  | 0, _ => by decide
  | 1, _ => by decide
  | 2, _ => by decide
  | 3, _ => by decide
  | 4, _ => by decide
  | 5, _ => by decide
  | 6, _ => by decide
  | 7, _ => by decide
  | 8, _ => by decide
  | 9, _ => by decide
  | 10, _ => by decide
  | 11, _ => by decide
  | 12, _ => by decide
  | 13, _ => by decide
  | 14, _ => by decide
  | 15, _ => by decide
  | 16, _ => by decide
  | 17, _ => by decide
  | 18, _ => by decide
  | k + 19, h => by omega
theorem dg_len11 (n : Int) : (dg11 n).length ≤ 3 := by unfold dg11; split <;> (try split) <;> simp
set_option maxHeartbeats 600000 in
theorem line_any11 (x : In) (hm : may11 x = true) (w : World) : Calls Tryd.prog 30 #[.agg #[.int .i64 x.op, .int .i64 x.a]] w fun e w' => e = .returned (.string (str (ln11 x))) ∧ Below w.heap.size w w' := by
  obtain ⟨p1, p2, p3, p4⟩ := may_parts11 hm
  obtain ⟨op, a⟩ := x
  simp only at p1 p2 p3 p4
  obtain ⟨k, rfl⟩ : ∃ k : Nat, op = k := ⟨op.toNat, by omega⟩
  have hk : k < 19 := by omega
  show Calls Tryd.prog 30 #[.agg #[.int .i64 (k : Int), .int .i64 a]] w _
  obtain ⟨t1, ht1⟩ : ∃ t, t = str (wd11 (k : Int)) := ⟨_, rfl⟩
  have ht1s : t1.size ≤ 8 := by rw [ht1, str_size]; exact wd_len11 k hk
  have HT1 := hid ht1
  have HB0 := hid (below_alloc w (.cells #[.int .i64 (k : Int), .int .i64 a] 34))
  have HX0 := hid (Lies.new w 34 #[.int .i64 (k : Int), .int .i64 a])
  have x0 := HX0.out.cell 0
  have x1 := HX0.out.cell 1
  simp only [List.getElem?_toArray, List.getElem?_cons_zero, List.getElem?_cons_succ] at x0 x1
  have H32 : Hid ((⟨#[32]⟩ : ByteArray) = str [32]) := rfl
  clear ht1 hm
  go_enter Tryd.func30, Tryd.ntmps30
  go_wp2_with fail
  refine (none_any11 (k : Int) _).mono ?_
  rintro e w1 ⟨rfl, rfl⟩
  cases hno : no11 (k : Int)
  · have L1 : Hid (¬ ((k : Int) = 8 ∨ (k : Int) = 9) → ln11 ⟨(k : Int), a⟩ = wd11 (k : Int) ++ [32] ++ dg11 a) := fun h => by
      unfold ln11; rw [if_neg (by rw [hno]; decide), if_neg h]
    have L2 : Hid ((k : Int) = 8 ∨ (k : Int) = 9 → ln11 ⟨(k : Int), a⟩ = wd11 (k : Int) ++ [32] ++ dg11 (a / 8) ++ [32] ++ dg11 (a % 8)) := fun h => by
      unfold ln11; rw [if_neg (by rw [hno]; decide), if_pos h]
    clear hno
    by_cases h89 : (k : Int) = 8 ∨ (k : Int) = 9
    · obtain ⟨s1, hs1⟩ : ∃ t, t = str (dg11 (a / 8)) := ⟨_, rfl⟩
      obtain ⟨s2, hs2⟩ : ∃ t, t = str (dg11 (a % 8)) := ⟨_, rfl⟩
      have hs1s : s1.size ≤ 3 := by rw [hs1, str_size]; exact dg_len11 _
      have hs2s : s2.size ≤ 3 := by rw [hs2, str_size]; exact dg_len11 _
      have c1 : ¬ 9223372036854775807 < t1.size + 1 := by omega
      have c2 : ¬ 9223372036854775807 < t1.size + 1 + s1.size := by omega
      have c3 : ¬ 9223372036854775807 < t1.size + 1 + s1.size + 1 := by omega
      have c4 : ¬ 9223372036854775807 < t1.size + 1 + s1.size + 1 + s2.size := by omega
      have HS1 := hid hs1
      have HS2 := hid hs2
      have HQ : Hid (IntKind.i64.wrap (a.tdiv 8) = a / 8) := by show _ = _; rw [Int.tdiv_eq_ediv_of_nonneg p3, IntWalk.i64_in _ ⟨by omega, by omega⟩]
      have HM : Hid (a.tmod 8 = a % 8) := Int.tmod_eq_emod_of_nonneg p3
      have HLN : Hid (str (ln11 ⟨(k : Int), a⟩) = t1 ++ ⟨#[32]⟩ ++ s1 ++ ⟨#[32]⟩ ++ s2) := by show _ = _; rw [L2.out h89, HT1.out, hs1, hs2, H32.out, str_append, str_append, str_append, str_append]
      clear hs1 hs2 ht1s hs1s hs2s L1 L2
      rcases h89 with hv | hv
      · obtain rfl : k = 8 := by omega
        clear hv
        go_upto_region 4 with fail
        refine wp_region_held_drew (S := (fun w' => w'.cell? ⟨w.heap.size, 0, none⟩ = some (.int .i64 8) ∧ w'.cell? ⟨w.heap.size, 1, none⟩ = some (.int .i64 a))) (by kernel_rfl) ?_ (fun hH0 => ?_)
        · exact ⟨x0, x1⟩
        refine wpAnyH_take (i := 0) (oi := { dst := some 17, op := Go.Op.fieldAddr 34 (Go.Operand.tmp 1) 0, type := 0, pos := "ref.go:96", after := #[], guard := none }) (v := ?vv1) rfl (by kernel_rfl) (by kernel_rfl) (by kernel_rfl) (fun _ _ _ h => h) (Or.inl ⟨by rfl, ?hy1⟩) (by assumption) ?rr1
        case hy1 => intro w hSw; (try dsimp only at hSw); go_simp; all_goals with_reducible rfl
        try simp only [Act.put, List.setIfInBounds_toArray, List.set_cons_zero, List.set_cons_succ]
        refine wpAnyH_take (i := 1) (oi := { dst := some 18, op := Go.Op.load 3 (Go.Operand.tmp 17), type := 3, pos := "ref.go:96", after := #[{ on := 0, ground := Go.Ground.data }], guard := none }) (v := ?vv2) rfl (by kernel_rfl) (by kernel_rfl) (by kernel_rfl) (fun _ _ _ h => h) (Or.inl ⟨by rfl, ?hy2⟩) (by assumption) ?rr2
        case hy2 => intro w hSw; (try dsimp only at hSw); go_simp; all_goals with_reducible rfl
        try simp only [Act.put, List.setIfInBounds_toArray, List.set_cons_zero, List.set_cons_succ]
        refine wpAnyH_take (i := 4) (oi := { dst := some 21, op := Go.Op.fieldAddr 34 (Go.Operand.tmp 1) 1, type := 0, pos := "ref.go:96", after := #[], guard := none }) (v := ?vv3) rfl (by kernel_rfl) (by kernel_rfl) (by kernel_rfl) (fun _ _ _ h => h) (Or.inl ⟨by rfl, ?hy3⟩) (by assumption) ?rr3
        case hy3 => intro w hSw; (try dsimp only at hSw); go_simp; all_goals with_reducible rfl
        try simp only [Act.put, List.setIfInBounds_toArray, List.set_cons_zero, List.set_cons_succ]
        refine wpAnyH_take (i := 5) (oi := { dst := some 22, op := Go.Op.load 3 (Go.Operand.tmp 21), type := 3, pos := "ref.go:96", after := #[{ on := 4, ground := Go.Ground.data }], guard := none }) (v := ?vv4) rfl (by kernel_rfl) (by kernel_rfl) (by kernel_rfl) (fun _ _ _ h => h) (Or.inl ⟨by rfl, ?hy4⟩) (by assumption) ?rr4
        case hy4 => intro w hSw; (try dsimp only at hSw); go_simp; all_goals with_reducible rfl
        try simp only [Act.put, List.setIfInBounds_toArray, List.set_cons_zero, List.set_cons_succ]
        refine wpAnyH_take (i := 6) (oi := { dst := some 23, op := Go.Op.binOp Go.BinOp.quo 3 (Go.Operand.tmp 22) (Go.Operand.const (Go.Value.int Go.IntKind.i64 8)) 3, type := 3, pos := "ref.go:96", after := #[{ on := 5, ground := Go.Ground.data }], guard := none }) (v := ?vv5) rfl (by kernel_rfl) (by kernel_rfl) (by kernel_rfl) (fun _ _ _ h => h) (Or.inl ⟨by rfl, ?hy5⟩) (by assumption) ?rr5
        case hy5 => intro w hSw; (try dsimp only at hSw); go_simp; all_goals with_reducible rfl
        try simp only [Act.put, List.setIfInBounds_toArray, List.set_cons_zero, List.set_cons_succ]
        refine wpAnyH_take (i := 10) (oi := { dst := some 27, op := Go.Op.fieldAddr 34 (Go.Operand.tmp 1) 1, type := 0, pos := "ref.go:96", after := #[], guard := none }) (v := ?vv6) rfl (by kernel_rfl) (by kernel_rfl) (by kernel_rfl) (fun _ _ _ h => h) (Or.inl ⟨by rfl, ?hy6⟩) (by assumption) ?rr6
        case hy6 => intro w hSw; (try dsimp only at hSw); go_simp; all_goals with_reducible rfl
        try simp only [Act.put, List.setIfInBounds_toArray, List.set_cons_zero, List.set_cons_succ]
        refine wpAnyH_take (i := 11) (oi := { dst := some 28, op := Go.Op.load 3 (Go.Operand.tmp 27), type := 3, pos := "ref.go:96", after := #[{ on := 10, ground := Go.Ground.data }], guard := none }) (v := ?vv7) rfl (by kernel_rfl) (by kernel_rfl) (by kernel_rfl) (fun _ _ _ h => h) (Or.inl ⟨by rfl, ?hy7⟩) (by assumption) ?rr7
        case hy7 => intro w hSw; (try dsimp only at hSw); go_simp; all_goals with_reducible rfl
        try simp only [Act.put, List.setIfInBounds_toArray, List.set_cons_zero, List.set_cons_succ]
        refine wpAnyH_take (i := 12) (oi := { dst := some 29, op := Go.Op.binOp Go.BinOp.rem 3 (Go.Operand.tmp 28) (Go.Operand.const (Go.Value.int Go.IntKind.i64 8)) 3, type := 3, pos := "ref.go:96", after := #[{ on := 11, ground := Go.Ground.data }], guard := none }) (v := ?vv8) rfl (by kernel_rfl) (by kernel_rfl) (by kernel_rfl) (fun _ _ _ h => h) (Or.inl ⟨by rfl, ?hy8⟩) (by assumption) ?rr8
        case hy8 => intro w hSw; (try dsimp only at hSw); go_simp; all_goals with_reducible rfl
        try simp only [Act.put, List.setIfInBounds_toArray, List.set_cons_zero, List.set_cons_succ]
        refine wpAnyH_ready (rs := [2]) (by kernel_rfl) (by simp) ?_
        refine AllReadyH.cons (i := 2) (o := { dst := some 19, op := Go.Op.call { callee := Go.Callee.value (Go.Operand.func 42), args := #[Go.Operand.tmp 18], argTypes := #[3] }, type := 9, pos := "ref.go:96", after := #[{ on := 1, ground := Go.Ground.data }], guard := none }) rfl (fun K hK => ?_) AllReadyH.nil
        go_simp
        go_at_call 42
        refine (word_any11 8 hk _).mono ?_
        rintro e u1 ⟨rfl, hb⟩
        rw [← HT1.out]
        have HV1 := hid (then_w (Below.refl (w.alloc (.cells #[.int .i64 8, .int .i64 a] 34)).heap.size (w.alloc (.cells #[.int .i64 8, .int .i64 a] 34))).drew hb)
        refine hK.out _ _ ?_ (fun hH1 => ?_)
        · exact ⟨cell_later hb hH0.1, cell_later hb hH0.2⟩
        clear hK K
        try simp only [Act.put, List.setIfInBounds_toArray, List.set_cons_zero, List.set_cons_succ]
        clear hb
        refine wpAnyH_take (i := 3) (oi := { dst := some 20, op := Go.Op.binOp Go.BinOp.add 9 (Go.Operand.tmp 19) (Go.Operand.const (Go.Value.string { data := #[32] })) 9, type := 9, pos := "ref.go:96", after := #[{ on := 2, ground := Go.Ground.data }], guard := none }) (v := ?vv9) rfl (by kernel_rfl) (by kernel_rfl) (by kernel_rfl) (fun _ _ _ h => h) (Or.inl ⟨by rfl, ?hy9⟩) (by assumption) ?rr9
        case hy9 => intro w hSw; (try dsimp only at hSw); go_simp; all_goals with_reducible rfl
        try simp only [Act.put, List.setIfInBounds_toArray, List.set_cons_zero, List.set_cons_succ]
        refine wpAnyH_ready (rs := [7]) (by kernel_rfl) (by simp) ?_
        refine AllReadyH.cons (i := 7) (o := { dst := some 24, op := Go.Op.call { callee := Go.Callee.value (Go.Operand.func 43), args := #[Go.Operand.tmp 23], argTypes := #[3] }, type := 9, pos := "ref.go:96", after := #[{ on := 6, ground := Go.Ground.data }, { on := 2, ground := Go.Ground.chain }], guard := none }) rfl (fun K hK => ?_) AllReadyH.nil
        go_simp
        go_at_call 43
        rw [HQ.out]
        refine (digs_any11 (a / 8) (by omega) (by omega) _).mono ?_
        rintro e u2 ⟨rfl, hb⟩
        rw [← HS1.out]
        have HV2 := hid (then_w HV1.out hb)
        refine hK.out _ _ ?_ (fun hH2 => ?_)
        · exact ⟨cell_later hb hH1.1, cell_later hb hH1.2⟩
        clear hK K
        try simp only [Act.put, List.setIfInBounds_toArray, List.set_cons_zero, List.set_cons_succ]
        clear hb
        refine wpAnyH_take (i := 8) (oi := { dst := some 25, op := Go.Op.binOp Go.BinOp.add 9 (Go.Operand.tmp 20) (Go.Operand.tmp 24) 9, type := 9, pos := "ref.go:96", after := #[{ on := 3, ground := Go.Ground.data }, { on := 7, ground := Go.Ground.data }], guard := none }) (v := ?vv10) rfl (by kernel_rfl) (by kernel_rfl) (by kernel_rfl) (fun _ _ _ h => h) (Or.inl ⟨by rfl, ?hy10⟩) (by assumption) ?rr10
        case hy10 => intro w hSw; (try dsimp only at hSw); go_simp; all_goals with_reducible rfl
        try simp only [Act.put, List.setIfInBounds_toArray, List.set_cons_zero, List.set_cons_succ]
        refine wpAnyH_take (i := 9) (oi := { dst := some 26, op := Go.Op.binOp Go.BinOp.add 9 (Go.Operand.tmp 25) (Go.Operand.const (Go.Value.string { data := #[32] })) 9, type := 9, pos := "ref.go:96", after := #[{ on := 8, ground := Go.Ground.data }], guard := none }) (v := ?vv11) rfl (by kernel_rfl) (by kernel_rfl) (by kernel_rfl) (fun _ _ _ h => h) (Or.inl ⟨by rfl, ?hy11⟩) (by assumption) ?rr11
        case hy11 => intro w hSw; (try dsimp only at hSw); go_simp; all_goals with_reducible rfl
        try simp only [Act.put, List.setIfInBounds_toArray, List.set_cons_zero, List.set_cons_succ]
        refine wpAnyH_ready (rs := [13]) (by kernel_rfl) (by simp) ?_
        refine AllReadyH.cons (i := 13) (o := { dst := some 30, op := Go.Op.call { callee := Go.Callee.value (Go.Operand.func 43), args := #[Go.Operand.tmp 29], argTypes := #[3] }, type := 9, pos := "ref.go:96", after := #[{ on := 12, ground := Go.Ground.data }, { on := 7, ground := Go.Ground.chain }], guard := none }) rfl (fun K hK => ?_) AllReadyH.nil
        go_simp
        go_at_call 43
        rw [HM.out]
        refine (digs_any11 (a % 8) (by omega) (by omega) _).mono ?_
        rintro e u3 ⟨rfl, hb⟩
        rw [← HS2.out]
        have HV3 := hid (then_w HV2.out hb)
        refine hK.out _ _ ?_ (fun hH3 => ?_)
        · exact ⟨cell_later hb hH2.1, cell_later hb hH2.2⟩
        clear hK K
        try simp only [Act.put, List.setIfInBounds_toArray, List.set_cons_zero, List.set_cons_succ]
        clear hb
        refine wpAnyH_take (i := 14) (oi := { dst := some 31, op := Go.Op.binOp Go.BinOp.add 9 (Go.Operand.tmp 26) (Go.Operand.tmp 30) 9, type := 9, pos := "ref.go:96", after := #[{ on := 9, ground := Go.Ground.data }, { on := 13, ground := Go.Ground.data }], guard := none }) (v := ?vv12) rfl (by kernel_rfl) (by kernel_rfl) (by kernel_rfl) (fun _ _ _ h => h) (Or.inl ⟨by rfl, ?hy12⟩) (by assumption) ?rr12
        case hy12 => intro w hSw; (try dsimp only at hSw); go_simp; all_goals with_reducible rfl
        try simp only [Act.put, List.setIfInBounds_toArray, List.set_cons_zero, List.set_cons_succ]
        refine wpAnyH_take (i := 15) (oi := { dst := some 2, op := Go.Op.assign (Go.Operand.tmp 31), type := 9, pos := "ref.go:96", after := #[{ on := 14, ground := Go.Ground.data }, { on := 13, ground := Go.Ground.chain }, { on := 0, ground := Go.Ground.phase }, { on := 1, ground := Go.Ground.phase }, { on := 2, ground := Go.Ground.phase }, { on := 3, ground := Go.Ground.phase }, { on := 4, ground := Go.Ground.phase }, { on := 5, ground := Go.Ground.phase }, { on := 6, ground := Go.Ground.phase }, { on := 7, ground := Go.Ground.phase }, { on := 8, ground := Go.Ground.phase }, { on := 9, ground := Go.Ground.phase }, { on := 10, ground := Go.Ground.phase }, { on := 11, ground := Go.Ground.phase }, { on := 12, ground := Go.Ground.phase }, { on := 13, ground := Go.Ground.phase }, { on := 14, ground := Go.Ground.phase }], guard := none }) (v := ?vv13) rfl (by kernel_rfl) (by kernel_rfl) (by kernel_rfl) (fun _ _ _ h => h) (Or.inl ⟨by rfl, ?hy13⟩) (by assumption) ?rr13
        case hy13 => intro w hSw; (try dsimp only at hSw); go_simp; all_goals with_reducible rfl
        try simp only [Act.put, List.setIfInBounds_toArray, List.set_cons_zero, List.set_cons_succ]
        refine wpAnyH_done (by kernel_rfl) ?_ _
        go_wp2_with fail
        go_ret
        exact ⟨by rw [HLN.out]; rfl, then_w HB0.out HV3.out⟩
      · obtain rfl : k = 9 := by omega
        clear hv
        go_upto_region 4 with fail
        refine wp_region_held_drew (S := (fun w' => w'.cell? ⟨w.heap.size, 0, none⟩ = some (.int .i64 9) ∧ w'.cell? ⟨w.heap.size, 1, none⟩ = some (.int .i64 a))) (by kernel_rfl) ?_ (fun hH0 => ?_)
        · exact ⟨x0, x1⟩
        refine wpAnyH_take (i := 0) (oi := { dst := some 17, op := Go.Op.fieldAddr 34 (Go.Operand.tmp 1) 0, type := 0, pos := "ref.go:96", after := #[], guard := none }) (v := ?vv14) rfl (by kernel_rfl) (by kernel_rfl) (by kernel_rfl) (fun _ _ _ h => h) (Or.inl ⟨by rfl, ?hy14⟩) (by assumption) ?rr14
        case hy14 => intro w hSw; (try dsimp only at hSw); go_simp; all_goals with_reducible rfl
        try simp only [Act.put, List.setIfInBounds_toArray, List.set_cons_zero, List.set_cons_succ]
        refine wpAnyH_take (i := 1) (oi := { dst := some 18, op := Go.Op.load 3 (Go.Operand.tmp 17), type := 3, pos := "ref.go:96", after := #[{ on := 0, ground := Go.Ground.data }], guard := none }) (v := ?vv15) rfl (by kernel_rfl) (by kernel_rfl) (by kernel_rfl) (fun _ _ _ h => h) (Or.inl ⟨by rfl, ?hy15⟩) (by assumption) ?rr15
        case hy15 => intro w hSw; (try dsimp only at hSw); go_simp; all_goals with_reducible rfl
        try simp only [Act.put, List.setIfInBounds_toArray, List.set_cons_zero, List.set_cons_succ]
        refine wpAnyH_take (i := 4) (oi := { dst := some 21, op := Go.Op.fieldAddr 34 (Go.Operand.tmp 1) 1, type := 0, pos := "ref.go:96", after := #[], guard := none }) (v := ?vv16) rfl (by kernel_rfl) (by kernel_rfl) (by kernel_rfl) (fun _ _ _ h => h) (Or.inl ⟨by rfl, ?hy16⟩) (by assumption) ?rr16
        case hy16 => intro w hSw; (try dsimp only at hSw); go_simp; all_goals with_reducible rfl
        try simp only [Act.put, List.setIfInBounds_toArray, List.set_cons_zero, List.set_cons_succ]
        refine wpAnyH_take (i := 5) (oi := { dst := some 22, op := Go.Op.load 3 (Go.Operand.tmp 21), type := 3, pos := "ref.go:96", after := #[{ on := 4, ground := Go.Ground.data }], guard := none }) (v := ?vv17) rfl (by kernel_rfl) (by kernel_rfl) (by kernel_rfl) (fun _ _ _ h => h) (Or.inl ⟨by rfl, ?hy17⟩) (by assumption) ?rr17
        case hy17 => intro w hSw; (try dsimp only at hSw); go_simp; all_goals with_reducible rfl
        try simp only [Act.put, List.setIfInBounds_toArray, List.set_cons_zero, List.set_cons_succ]
        refine wpAnyH_take (i := 6) (oi := { dst := some 23, op := Go.Op.binOp Go.BinOp.quo 3 (Go.Operand.tmp 22) (Go.Operand.const (Go.Value.int Go.IntKind.i64 8)) 3, type := 3, pos := "ref.go:96", after := #[{ on := 5, ground := Go.Ground.data }], guard := none }) (v := ?vv18) rfl (by kernel_rfl) (by kernel_rfl) (by kernel_rfl) (fun _ _ _ h => h) (Or.inl ⟨by rfl, ?hy18⟩) (by assumption) ?rr18
        case hy18 => intro w hSw; (try dsimp only at hSw); go_simp; all_goals with_reducible rfl
        try simp only [Act.put, List.setIfInBounds_toArray, List.set_cons_zero, List.set_cons_succ]
        refine wpAnyH_take (i := 10) (oi := { dst := some 27, op := Go.Op.fieldAddr 34 (Go.Operand.tmp 1) 1, type := 0, pos := "ref.go:96", after := #[], guard := none }) (v := ?vv19) rfl (by kernel_rfl) (by kernel_rfl) (by kernel_rfl) (fun _ _ _ h => h) (Or.inl ⟨by rfl, ?hy19⟩) (by assumption) ?rr19
        case hy19 => intro w hSw; (try dsimp only at hSw); go_simp; all_goals with_reducible rfl
        try simp only [Act.put, List.setIfInBounds_toArray, List.set_cons_zero, List.set_cons_succ]
        refine wpAnyH_take (i := 11) (oi := { dst := some 28, op := Go.Op.load 3 (Go.Operand.tmp 27), type := 3, pos := "ref.go:96", after := #[{ on := 10, ground := Go.Ground.data }], guard := none }) (v := ?vv20) rfl (by kernel_rfl) (by kernel_rfl) (by kernel_rfl) (fun _ _ _ h => h) (Or.inl ⟨by rfl, ?hy20⟩) (by assumption) ?rr20
        case hy20 => intro w hSw; (try dsimp only at hSw); go_simp; all_goals with_reducible rfl
        try simp only [Act.put, List.setIfInBounds_toArray, List.set_cons_zero, List.set_cons_succ]
        refine wpAnyH_take (i := 12) (oi := { dst := some 29, op := Go.Op.binOp Go.BinOp.rem 3 (Go.Operand.tmp 28) (Go.Operand.const (Go.Value.int Go.IntKind.i64 8)) 3, type := 3, pos := "ref.go:96", after := #[{ on := 11, ground := Go.Ground.data }], guard := none }) (v := ?vv21) rfl (by kernel_rfl) (by kernel_rfl) (by kernel_rfl) (fun _ _ _ h => h) (Or.inl ⟨by rfl, ?hy21⟩) (by assumption) ?rr21
        case hy21 => intro w hSw; (try dsimp only at hSw); go_simp; all_goals with_reducible rfl
        try simp only [Act.put, List.setIfInBounds_toArray, List.set_cons_zero, List.set_cons_succ]
        refine wpAnyH_ready (rs := [2]) (by kernel_rfl) (by simp) ?_
        refine AllReadyH.cons (i := 2) (o := { dst := some 19, op := Go.Op.call { callee := Go.Callee.value (Go.Operand.func 42), args := #[Go.Operand.tmp 18], argTypes := #[3] }, type := 9, pos := "ref.go:96", after := #[{ on := 1, ground := Go.Ground.data }], guard := none }) rfl (fun K hK => ?_) AllReadyH.nil
        go_simp
        go_at_call 42
        refine (word_any11 9 hk _).mono ?_
        rintro e u1 ⟨rfl, hb⟩
        rw [← HT1.out]
        have HV1 := hid (then_w (Below.refl (w.alloc (.cells #[.int .i64 9, .int .i64 a] 34)).heap.size (w.alloc (.cells #[.int .i64 9, .int .i64 a] 34))).drew hb)
        refine hK.out _ _ ?_ (fun hH1 => ?_)
        · exact ⟨cell_later hb hH0.1, cell_later hb hH0.2⟩
        clear hK K
        try simp only [Act.put, List.setIfInBounds_toArray, List.set_cons_zero, List.set_cons_succ]
        clear hb
        refine wpAnyH_take (i := 3) (oi := { dst := some 20, op := Go.Op.binOp Go.BinOp.add 9 (Go.Operand.tmp 19) (Go.Operand.const (Go.Value.string { data := #[32] })) 9, type := 9, pos := "ref.go:96", after := #[{ on := 2, ground := Go.Ground.data }], guard := none }) (v := ?vv22) rfl (by kernel_rfl) (by kernel_rfl) (by kernel_rfl) (fun _ _ _ h => h) (Or.inl ⟨by rfl, ?hy22⟩) (by assumption) ?rr22
        case hy22 => intro w hSw; (try dsimp only at hSw); go_simp; all_goals with_reducible rfl
        try simp only [Act.put, List.setIfInBounds_toArray, List.set_cons_zero, List.set_cons_succ]
        refine wpAnyH_ready (rs := [7]) (by kernel_rfl) (by simp) ?_
        refine AllReadyH.cons (i := 7) (o := { dst := some 24, op := Go.Op.call { callee := Go.Callee.value (Go.Operand.func 43), args := #[Go.Operand.tmp 23], argTypes := #[3] }, type := 9, pos := "ref.go:96", after := #[{ on := 6, ground := Go.Ground.data }, { on := 2, ground := Go.Ground.chain }], guard := none }) rfl (fun K hK => ?_) AllReadyH.nil
        go_simp
        go_at_call 43
        rw [HQ.out]
        refine (digs_any11 (a / 8) (by omega) (by omega) _).mono ?_
        rintro e u2 ⟨rfl, hb⟩
        rw [← HS1.out]
        have HV2 := hid (then_w HV1.out hb)
        refine hK.out _ _ ?_ (fun hH2 => ?_)
        · exact ⟨cell_later hb hH1.1, cell_later hb hH1.2⟩
        clear hK K
        try simp only [Act.put, List.setIfInBounds_toArray, List.set_cons_zero, List.set_cons_succ]
        clear hb
        refine wpAnyH_take (i := 8) (oi := { dst := some 25, op := Go.Op.binOp Go.BinOp.add 9 (Go.Operand.tmp 20) (Go.Operand.tmp 24) 9, type := 9, pos := "ref.go:96", after := #[{ on := 3, ground := Go.Ground.data }, { on := 7, ground := Go.Ground.data }], guard := none }) (v := ?vv23) rfl (by kernel_rfl) (by kernel_rfl) (by kernel_rfl) (fun _ _ _ h => h) (Or.inl ⟨by rfl, ?hy23⟩) (by assumption) ?rr23
        case hy23 => intro w hSw; (try dsimp only at hSw); go_simp; all_goals with_reducible rfl
        try simp only [Act.put, List.setIfInBounds_toArray, List.set_cons_zero, List.set_cons_succ]
        refine wpAnyH_take (i := 9) (oi := { dst := some 26, op := Go.Op.binOp Go.BinOp.add 9 (Go.Operand.tmp 25) (Go.Operand.const (Go.Value.string { data := #[32] })) 9, type := 9, pos := "ref.go:96", after := #[{ on := 8, ground := Go.Ground.data }], guard := none }) (v := ?vv24) rfl (by kernel_rfl) (by kernel_rfl) (by kernel_rfl) (fun _ _ _ h => h) (Or.inl ⟨by rfl, ?hy24⟩) (by assumption) ?rr24
        case hy24 => intro w hSw; (try dsimp only at hSw); go_simp; all_goals with_reducible rfl
        try simp only [Act.put, List.setIfInBounds_toArray, List.set_cons_zero, List.set_cons_succ]
        refine wpAnyH_ready (rs := [13]) (by kernel_rfl) (by simp) ?_
        refine AllReadyH.cons (i := 13) (o := { dst := some 30, op := Go.Op.call { callee := Go.Callee.value (Go.Operand.func 43), args := #[Go.Operand.tmp 29], argTypes := #[3] }, type := 9, pos := "ref.go:96", after := #[{ on := 12, ground := Go.Ground.data }, { on := 7, ground := Go.Ground.chain }], guard := none }) rfl (fun K hK => ?_) AllReadyH.nil
        go_simp
        go_at_call 43
        rw [HM.out]
        refine (digs_any11 (a % 8) (by omega) (by omega) _).mono ?_
        rintro e u3 ⟨rfl, hb⟩
        rw [← HS2.out]
        have HV3 := hid (then_w HV2.out hb)
        refine hK.out _ _ ?_ (fun hH3 => ?_)
        · exact ⟨cell_later hb hH2.1, cell_later hb hH2.2⟩
        clear hK K
        try simp only [Act.put, List.setIfInBounds_toArray, List.set_cons_zero, List.set_cons_succ]
        clear hb
        refine wpAnyH_take (i := 14) (oi := { dst := some 31, op := Go.Op.binOp Go.BinOp.add 9 (Go.Operand.tmp 26) (Go.Operand.tmp 30) 9, type := 9, pos := "ref.go:96", after := #[{ on := 9, ground := Go.Ground.data }, { on := 13, ground := Go.Ground.data }], guard := none }) (v := ?vv25) rfl (by kernel_rfl) (by kernel_rfl) (by kernel_rfl) (fun _ _ _ h => h) (Or.inl ⟨by rfl, ?hy25⟩) (by assumption) ?rr25
        case hy25 => intro w hSw; (try dsimp only at hSw); go_simp; all_goals with_reducible rfl
        try simp only [Act.put, List.setIfInBounds_toArray, List.set_cons_zero, List.set_cons_succ]
        refine wpAnyH_take (i := 15) (oi := { dst := some 2, op := Go.Op.assign (Go.Operand.tmp 31), type := 9, pos := "ref.go:96", after := #[{ on := 14, ground := Go.Ground.data }, { on := 13, ground := Go.Ground.chain }, { on := 0, ground := Go.Ground.phase }, { on := 1, ground := Go.Ground.phase }, { on := 2, ground := Go.Ground.phase }, { on := 3, ground := Go.Ground.phase }, { on := 4, ground := Go.Ground.phase }, { on := 5, ground := Go.Ground.phase }, { on := 6, ground := Go.Ground.phase }, { on := 7, ground := Go.Ground.phase }, { on := 8, ground := Go.Ground.phase }, { on := 9, ground := Go.Ground.phase }, { on := 10, ground := Go.Ground.phase }, { on := 11, ground := Go.Ground.phase }, { on := 12, ground := Go.Ground.phase }, { on := 13, ground := Go.Ground.phase }, { on := 14, ground := Go.Ground.phase }], guard := none }) (v := ?vv26) rfl (by kernel_rfl) (by kernel_rfl) (by kernel_rfl) (fun _ _ _ h => h) (Or.inl ⟨by rfl, ?hy26⟩) (by assumption) ?rr26
        case hy26 => intro w hSw; (try dsimp only at hSw); go_simp; all_goals with_reducible rfl
        try simp only [Act.put, List.setIfInBounds_toArray, List.set_cons_zero, List.set_cons_succ]
        refine wpAnyH_done (by kernel_rfl) ?_ _
        go_wp2_with fail
        go_ret
        exact ⟨by rw [HLN.out]; rfl, then_w HB0.out HV3.out⟩
    · obtain ⟨s1, hs1⟩ : ∃ t, t = str (dg11 a) := ⟨_, rfl⟩
      have hs1s : s1.size ≤ 3 := by rw [hs1, str_size]; exact dg_len11 _
      have c1 : ¬ 9223372036854775807 < t1.size + 1 := by omega
      have c2 : ¬ 9223372036854775807 < t1.size + 1 + s1.size := by omega
      have HS1 := hid hs1
      have HLN : Hid (str (ln11 ⟨(k : Int), a⟩) = t1 ++ ⟨#[32]⟩ ++ s1) := by show _ = _; rw [L1.out h89, HT1.out, hs1, H32.out, str_append, str_append]
      have n8 : ¬ (k : Int) = 8 := fun h => h89 (.inl h)
      have n9 : ¬ (k : Int) = 9 := fun h => h89 (.inr h)
      have m8 : ¬ k = 8 := by omega
      have m9 : ¬ k = 9 := by omega
      have b8 : ((k : Int) == 8) = false := beq_eq_false_iff_ne.2 n8
      have b9 : ((k : Int) == 9) = false := beq_eq_false_iff_ne.2 n9
      clear hs1 ht1s hs1s L1 L2 h89
      go_upto_region 5 with fail
      refine wp_region_held_drew (S := (fun w' => w'.cell? ⟨w.heap.size, 0, none⟩ = some (.int .i64 (k : Int)) ∧ w'.cell? ⟨w.heap.size, 1, none⟩ = some (.int .i64 a))) (by kernel_rfl) ?_ (fun hH0 => ?_)
      · exact ⟨x0, x1⟩
      refine wpAnyH_take (i := 0) (oi := { dst := some 32, op := Go.Op.fieldAddr 34 (Go.Operand.tmp 1) 0, type := 0, pos := "ref.go:98", after := #[], guard := none }) (v := ?vv27) rfl (by kernel_rfl) (by kernel_rfl) (by kernel_rfl) (fun _ _ _ h => h) (Or.inl ⟨by rfl, ?hy27⟩) (by assumption) ?rr27
      case hy27 => intro w hSw; (try dsimp only at hSw); go_simp; all_goals with_reducible rfl
      try simp only [Act.put, List.setIfInBounds_toArray, List.set_cons_zero, List.set_cons_succ]
      refine wpAnyH_take (i := 1) (oi := { dst := some 33, op := Go.Op.load 3 (Go.Operand.tmp 32), type := 3, pos := "ref.go:98", after := #[{ on := 0, ground := Go.Ground.data }], guard := none }) (v := ?vv28) rfl (by kernel_rfl) (by kernel_rfl) (by kernel_rfl) (fun _ _ _ h => h) (Or.inl ⟨by rfl, ?hy28⟩) (by assumption) ?rr28
      case hy28 => intro w hSw; (try dsimp only at hSw); go_simp; all_goals with_reducible rfl
      try simp only [Act.put, List.setIfInBounds_toArray, List.set_cons_zero, List.set_cons_succ]
      refine wpAnyH_take (i := 4) (oi := { dst := some 36, op := Go.Op.fieldAddr 34 (Go.Operand.tmp 1) 1, type := 0, pos := "ref.go:98", after := #[], guard := none }) (v := ?vv29) rfl (by kernel_rfl) (by kernel_rfl) (by kernel_rfl) (fun _ _ _ h => h) (Or.inl ⟨by rfl, ?hy29⟩) (by assumption) ?rr29
      case hy29 => intro w hSw; (try dsimp only at hSw); go_simp; all_goals with_reducible rfl
      try simp only [Act.put, List.setIfInBounds_toArray, List.set_cons_zero, List.set_cons_succ]
      refine wpAnyH_take (i := 5) (oi := { dst := some 37, op := Go.Op.load 3 (Go.Operand.tmp 36), type := 3, pos := "ref.go:98", after := #[{ on := 4, ground := Go.Ground.data }], guard := none }) (v := ?vv30) rfl (by kernel_rfl) (by kernel_rfl) (by kernel_rfl) (fun _ _ _ h => h) (Or.inl ⟨by rfl, ?hy30⟩) (by assumption) ?rr30
      case hy30 => intro w hSw; (try dsimp only at hSw); go_simp; all_goals with_reducible rfl
      try simp only [Act.put, List.setIfInBounds_toArray, List.set_cons_zero, List.set_cons_succ]
      refine wpAnyH_ready (rs := [2]) (by kernel_rfl) (by simp) ?_
      refine AllReadyH.cons (i := 2) (o := { dst := some 34, op := Go.Op.call { callee := Go.Callee.value (Go.Operand.func 42), args := #[Go.Operand.tmp 33], argTypes := #[3] }, type := 9, pos := "ref.go:98", after := #[{ on := 1, ground := Go.Ground.data }], guard := none }) rfl (fun K hK => ?_) AllReadyH.nil
      go_simp
      go_at_call 42
      refine (word_any11 k hk _).mono ?_
      rintro e u1 ⟨rfl, hb⟩
      rw [← HT1.out]
      have HV1 := hid (then_w (Below.refl (w.alloc (.cells #[.int .i64 (k : Int), .int .i64 a] 34)).heap.size (w.alloc (.cells #[.int .i64 (k : Int), .int .i64 a] 34))).drew hb)
      refine hK.out _ _ ?_ (fun hH1 => ?_)
      · exact ⟨cell_later hb hH0.1, cell_later hb hH0.2⟩
      clear hK K
      try simp only [Act.put, List.setIfInBounds_toArray, List.set_cons_zero, List.set_cons_succ]
      clear hb
      refine wpAnyH_take (i := 3) (oi := { dst := some 35, op := Go.Op.binOp Go.BinOp.add 9 (Go.Operand.tmp 34) (Go.Operand.const (Go.Value.string { data := #[32] })) 9, type := 9, pos := "ref.go:98", after := #[{ on := 2, ground := Go.Ground.data }], guard := none }) (v := ?vv31) rfl (by kernel_rfl) (by kernel_rfl) (by kernel_rfl) (fun _ _ _ h => h) (Or.inl ⟨by rfl, ?hy31⟩) (by assumption) ?rr31
      case hy31 => intro w hSw; (try dsimp only at hSw); go_simp; all_goals with_reducible rfl
      try simp only [Act.put, List.setIfInBounds_toArray, List.set_cons_zero, List.set_cons_succ]
      refine wpAnyH_ready (rs := [6]) (by kernel_rfl) (by simp) ?_
      refine AllReadyH.cons (i := 6) (o := { dst := some 38, op := Go.Op.call { callee := Go.Callee.value (Go.Operand.func 43), args := #[Go.Operand.tmp 37], argTypes := #[3] }, type := 9, pos := "ref.go:98", after := #[{ on := 5, ground := Go.Ground.data }, { on := 2, ground := Go.Ground.chain }], guard := none }) rfl (fun K hK => ?_) AllReadyH.nil
      go_simp
      go_at_call 43
      refine (digs_any11 a (by omega) (by omega) _).mono ?_
      rintro e u2 ⟨rfl, hb⟩
      rw [← HS1.out]
      have HV2 := hid (then_w HV1.out hb)
      refine hK.out _ _ ?_ (fun hH2 => ?_)
      · exact ⟨cell_later hb hH1.1, cell_later hb hH1.2⟩
      clear hK K
      try simp only [Act.put, List.setIfInBounds_toArray, List.set_cons_zero, List.set_cons_succ]
      clear hb
      refine wpAnyH_take (i := 7) (oi := { dst := some 39, op := Go.Op.binOp Go.BinOp.add 9 (Go.Operand.tmp 35) (Go.Operand.tmp 38) 9, type := 9, pos := "ref.go:98", after := #[{ on := 3, ground := Go.Ground.data }, { on := 6, ground := Go.Ground.data }], guard := none }) (v := ?vv32) rfl (by kernel_rfl) (by kernel_rfl) (by kernel_rfl) (fun _ _ _ h => h) (Or.inl ⟨by rfl, ?hy32⟩) (by assumption) ?rr32
      case hy32 => intro w hSw; (try dsimp only at hSw); go_simp; all_goals with_reducible rfl
      try simp only [Act.put, List.setIfInBounds_toArray, List.set_cons_zero, List.set_cons_succ]
      refine wpAnyH_take (i := 8) (oi := { dst := some 2, op := Go.Op.assign (Go.Operand.tmp 39), type := 9, pos := "ref.go:98", after := #[{ on := 7, ground := Go.Ground.data }, { on := 6, ground := Go.Ground.chain }, { on := 0, ground := Go.Ground.phase }, { on := 1, ground := Go.Ground.phase }, { on := 2, ground := Go.Ground.phase }, { on := 3, ground := Go.Ground.phase }, { on := 4, ground := Go.Ground.phase }, { on := 5, ground := Go.Ground.phase }, { on := 6, ground := Go.Ground.phase }, { on := 7, ground := Go.Ground.phase }], guard := none }) (v := ?vv33) rfl (by kernel_rfl) (by kernel_rfl) (by kernel_rfl) (fun _ _ _ h => h) (Or.inl ⟨by rfl, ?hy33⟩) (by assumption) ?rr33
      case hy33 => intro w hSw; (try dsimp only at hSw); go_simp; all_goals with_reducible rfl
      try simp only [Act.put, List.setIfInBounds_toArray, List.set_cons_zero, List.set_cons_succ]
      refine wpAnyH_done (by kernel_rfl) ?_ _
      go_wp2_with fail
      go_ret
      exact ⟨by rw [HLN.out]; rfl, then_w HB0.out HV2.out⟩
  · have HLN : Hid (str (ln11 ⟨(k : Int), a⟩) = t1) := by show _ = _; unfold ln11; rw [if_pos hno, HT1.out]
    clear hno
    go_wp2_with fail
    refine (word_any11 k hk _).mono ?_
    rintro e w2 ⟨rfl, hb⟩
    rw [← HT1.out]
    have HB2 := hid (then_w HB0.out hb)
    clear hb
    go_wp2_with fail
    go_ret
    exact ⟨by rw [HLN.out]; rfl, HB2.out⟩
end Go.Proofs.YtobelbaeaamkkaaDoor
