/- Primitives 1 to 5: whole numbers. -/
import Derived.Test.YtnilempeldlieaaGreatJ04
import Derived.Test.YtnilempeldlieaaGreatJPL13
namespace Go.Proofs.YtnilempeldlieaaGreat
abbrev oPM130 : Oper := ⟨some 4, .load 89 (.tmp 1), 89, "prim.go:128", #[], none⟩
abbrev oPM131 : Oper := ⟨some 5, .move (.tmp 0), 86, "prim.go:128", #[], none⟩
abbrev oPM132 : Oper := ⟨some 6, .nilCheck (.tmp 5), 0, "prim.go:128", #[⟨1, .data⟩], none⟩
abbrev oPM133 : Oper := ⟨some 7, .fieldAddr 62 (.tmp 6) 1, 0, "prim.go:128", #[⟨2, .data⟩], none⟩
abbrev oPM134 : Oper := ⟨some 8, .load 3 (.tmp 7), 3, "prim.go:128", #[⟨3, .data⟩], none⟩
abbrev oPM135 : Oper := ⟨some 10, .move (.tmp 0), 86, "prim.go:128", #[], none⟩
abbrev oPM136 : Oper := ⟨some 11, .nilCheck (.tmp 10), 0, "prim.go:128", #[⟨6, .data⟩], none⟩
abbrev oPM137 : Oper := ⟨some 12, .fieldAddr 62 (.tmp 11) 2, 0, "prim.go:128", #[⟨7, .data⟩], none⟩
abbrev oPM138 : Oper := ⟨some 13, .load 34 (.tmp 12), 34, "prim.go:128", #[⟨8, .data⟩], none⟩
abbrev oPM139 : Oper := ⟨some 14, .indexAddr 34 (.tmp 13) (.const (Go.Value.int .i64 0)), 0, "prim.go:128", #[⟨9, .data⟩], none⟩
abbrev oPM1310 : Oper := ⟨some 15, .load 3 (.tmp 14), 3, "prim.go:128", #[⟨10, .data⟩], none⟩
abbrev oPM1311 : Oper := ⟨some 9, .call { callee := .value (.func 178), args := #[.tmp 8], argTypes := #[3] }, 3, "prim.go:128", #[⟨4, .data⟩], none⟩
abbrev oPM1312 : Oper := ⟨some 16, .call { callee := .value (.func 178), args := #[.tmp 15], argTypes := #[3] }, 3, "prim.go:128", #[⟨11, .data⟩, ⟨5, .chain⟩], none⟩
abbrev oPM1313 : Oper := ⟨some 17, .call { callee := .value (.tmp 4), args := #[.tmp 9, .tmp 16], argTypes := #[3, 3] }, 3, "prim.go:128", #[⟨0, .data⟩, ⟨5, .data⟩, ⟨12, .data⟩, ⟨12, .chain⟩], none⟩
abbrev oPM1314 : Oper := ⟨some 18, .call { callee := .value (.func 177), args := #[.tmp 17], argTypes := #[3] }, 3, "prim.go:128", #[⟨13, .data⟩, ⟨13, .chain⟩], none⟩
abbrev oPM1315 : Oper := ⟨some 3, .assign (.tmp 18), 3, "prim.go:128", #[⟨14, .data⟩, ⟨14, .chain⟩, ⟨0, .phase⟩, ⟨1, .phase⟩, ⟨2, .phase⟩, ⟨3, .phase⟩, ⟨4, .phase⟩, ⟨5, .phase⟩, ⟨6, .phase⟩, ⟨7, .phase⟩, ⟨8, .phase⟩, ⟨9, .phase⟩, ⟨10, .phase⟩, ⟨11, .phase⟩, ⟨12, .phase⟩, ⟨13, .phase⟩, ⟨14, .phase⟩], none⟩
open Go.RowKit Flt
set_option maxRecDepth 100000
theorem tdiv_bd13 {m n : Int} (hm : -1073741824 ≤ m ∧ m ≤ 1073741823) : -1073741824 ≤ m.tdiv n ∧ m.tdiv n ≤ 1073741824 := by
  have h : (m.tdiv n).natAbs ≤ 1073741824 := by
    rw [Int.natAbs_tdiv]
    exact Nat.le_trans (Nat.div_le_self _ _) (by omega)
  omega
theorem fdiv_bd13 {m n : Int} (hm : -1073741824 ≤ m ∧ m ≤ 1073741823) (h0 : n ≠ 0) : -1073741825 ≤ m.fdiv n ∧ m.fdiv n ≤ 1073741824 := by
  have h := tdiv_bd13 (n := n) hm
  rw [fdiv_q13 h0]
  split <;> omega
set_option maxHeartbeats 1000000 in
theorem quot_any13 {m n : Int} (hm : -1073741824 ≤ m ∧ m ≤ 1073741823) (_hn : -1073741824 ≤ n ∧ n ≤ 1073741823) (h0 : n ≠ 0) (w : World) : Calls Tryz.prog 138 #[.int .i64 m, .int .i64 n] w fun e w' => e = .returned (.int .i64 (m.fdiv n)) ∧ w = w' := by
  have hb := tdiv_bd13 (n := n) hm
  have hw : IntKind.i64.wrap (m.tdiv n) = m.tdiv n := IntWalk.i64_in _ (by omega)
  have hw2 : IntKind.i64.wrap (m.tdiv n - 1) = m.tdiv n - 1 := IntWalk.i64_in _ (by omega)
  have hbt : -1073741824 ≤ m.tmod n ∧ m.tmod n ≤ 1073741824 := by
    have h : (m.tmod n).natAbs ≤ 1073741824 := by
      rw [Int.natAbs_tmod]
      exact Nat.le_trans (Nat.mod_le _ _) (by omega)
    omega
  have hw3 : IntKind.i64.wrap (m.tmod n) = m.tmod n := IntWalk.i64_in _ (by omega)
  have hz : (n == 0) = false := by simpa using h0
  have HF := hid (fdiv_q13 (s := m) h0)
  obtain ⟨r, hr⟩ : ∃ r, r = m.fdiv n := ⟨_, rfl⟩
  rw [← hr] at HF ⊢
  clear hr hb hbt
  by_cases ht : m.tmod n = 0
  · have HR : Hid (r = m.tdiv n) := by show _ = _; rw [HF.out, if_neg (fun h => h.1 ht)]
    have ht2 : (m.tmod n != 0) = false := by simp [ht]
    have ht3 : ¬ m.tmod n ≠ 0 := fun h => h ht
    go_enter Tryz.func138, Tryz.ntmps138
    go_wp2
    go_ret
    exact ⟨by rw [HR.out]; rfl, rfl⟩
  · have ht2 : (m.tmod n != 0) = true := by simpa using ht
    by_cases hs : m < 0 <;> by_cases ha : n < 0
    · have HR : Hid (r = m.tdiv n) := by show _ = _; rw [HF.out, if_neg (by simp [hs, ha])]
      have d1 : decide (m < 0) = true := decide_eq_true hs
      have d2 : decide (n < 0) = true := decide_eq_true ha
      go_enter Tryz.func138, Tryz.ntmps138
      go_wp2
      go_ret
      exact ⟨by rw [HR.out]; rfl, rfl⟩
    · have HR : Hid (r = m.tdiv n - 1) := by show _ = _; rw [HF.out, if_pos ⟨ht, by simp [hs, ha]⟩]
      have d1 : decide (m < 0) = true := decide_eq_true hs
      have d2 : decide (n < 0) = false := decide_eq_false ha
      go_enter Tryz.func138, Tryz.ntmps138
      go_wp2
      go_ret
      exact ⟨by rw [HR.out]; rfl, rfl⟩
    · have HR : Hid (r = m.tdiv n - 1) := by show _ = _; rw [HF.out, if_pos ⟨ht, by simp [hs, ha]⟩]
      have d1 : decide (m < 0) = false := decide_eq_false hs
      have hme : m.tmod n = m % n := Int.tmod_eq_emod_of_nonneg (by omega)
      have ht5 : (m % n != 0) = true := by rw [← hme]; exact ht2
      have ht6 : ¬ m % n = 0 := by rw [← hme]; exact ht
      clear hme
      have d2 : decide (n < 0) = true := decide_eq_true ha
      go_enter Tryz.func138, Tryz.ntmps138
      go_wp2
      go_ret
      exact ⟨by rw [HR.out]; rfl, rfl⟩
    · have HR : Hid (r = m.tdiv n) := by show _ = _; rw [HF.out, if_neg (by simp [hs, ha])]
      have d1 : decide (m < 0) = false := decide_eq_false hs
      have hme : m.tmod n = m % n := Int.tmod_eq_emod_of_nonneg (by omega)
      have ht5 : (m % n != 0) = true := by rw [← hme]; exact ht2
      have ht6 : ¬ m % n = 0 := by rw [← hme]; exact ht
      clear hme
      have d2 : decide (n < 0) = false := decide_eq_false ha
      go_enter Tryz.func138, Tryz.ntmps138
      go_wp2
      go_ret
      exact ⟨by rw [HR.out]; rfl, rfl⟩
theorem rest_no13 (s : Int) (w : World) : Calls Tryz.prog 139 #[.int .i64 s, .int .i64 0] w fun e w' => e = .panicked (stop13 130) ∧ w = w' := by
  go_enter Tryz.func139, Tryz.ntmps139
  go_wp2_with (go_at_call 138; refine (quot_no13 _ _).mono ?_; rintro e w9 ⟨rfl, rfl⟩)
  exact ⟨rfl, rfl, rfl⟩
theorem rest_bd13 {m n : Int} (hm : -1073741824 ≤ m ∧ m ≤ 1073741823) (hn : -1073741824 ≤ n ∧ n ≤ 1073741823) (h0 : n ≠ 0) : -4611686018427387904 ≤ n * m.fdiv n ∧ n * m.fdiv n ≤ 4611686018427387904 := by
  have h1 := fdiv_bd13 hm h0
  have h : (n * m.fdiv n).natAbs ≤ 1073741824 * 1073741825 := by
    rw [Int.natAbs_mul]
    exact Nat.mul_le_mul (by omega) (by omega)
  omega
theorem rest_any13 {m n : Int} (hm : -1073741824 ≤ m ∧ m ≤ 1073741823) (hn : -1073741824 ≤ n ∧ n ≤ 1073741823) (h0 : n ≠ 0) (w : World) : Calls Tryz.prog 139 #[.int .i64 m, .int .i64 n] w fun e w' => e = .returned (.int .i64 (m - n * m.fdiv n)) ∧ w = w' := by
  have HQ := hid (quot_any13 hm hn h0)
  have hb := rest_bd13 hm hn h0
  obtain ⟨q, hq⟩ : ∃ q, q = m.fdiv n := ⟨_, rfl⟩
  rw [← hq] at HQ hb ⊢
  have hw : IntKind.i64.wrap (n * q) = n * q := IntWalk.i64_in _ (by omega)
  have hw2 : IntKind.i64.wrap (m - n * q) = m - n * q := IntWalk.i64_in _ (by omega)
  clear hb hq hm hn
  go_enter Tryz.func139, Tryz.ntmps139
  go_wp2_with (go_at_call 138; refine (HQ.out _).mono ?_; rintro e w9 ⟨rfl, rfl⟩)
  go_ret
  exact ⟨rfl, rfl⟩
set_option maxHeartbeats 1000000 in
theorem ofadd_any13 (b base : Nat) (h : Hp) (A : Option Addr) (c : Nat) (s : Int) (args : List Int) (SA : Option Addr) (da : Nat) (w : World) (I : In13 w b base h A c s args SA da) (hn : 0 < args.length) (kb : Nat) (hk : w.cell? ⟨kb, 0, none⟩ = some (.func (.func 135) #[] #[])) (_hkb : kb ≠ b) :
    Calls Tryz.prog 176 #[.pointer (some ⟨b, 0, none⟩), .pointer (some ⟨kb, 0, none⟩)] w (Po13 w b h A c s args.length SA da (if nB s = false ∨ nB (args.getD 0 0) = false then fa13 h else in13 h (nV s + nV (args.getD 0 0)))) := by
  obtain ⟨a0, ha0⟩ : ∃ a, a = args.getD 0 0 := ⟨_, rfl⟩
  rw [← ha0]
  have HI := hid I
  have HLA := hid (fun k => has_arg13 I.hall (k := k))
  obtain ⟨p, o, hSA, q0, hpb⟩ := I.arg (k := 0) (by omega)
  subst hSA
  rw [← ha0] at q0
  simp only [Nat.add_zero] at q0
  have hn0 : 0 < args.length := by omega
  have hn0I : (0 : Int) < (args.length : Int) := by omega
  have HPB := hid hpb
  obtain ⟨x0, x1, x2, x3, x4⟩ := I.box.c5
  have HA0 := hid ha0
  clear I hpb ha0
  have k0 := hk
  clear hk _hkb
  obtain ⟨rr, hrr⟩ : ∃ r : Rs, r = (if nB s = false ∨ nB a0 = false then fa13 h else in13 h (nV s + nV a0)) := ⟨_, rfl⟩
  rw [← hrr]
  have HRR := hid hrr
  clear hrr
  cases hs : nB s
  · go_enter Tryz.func176, Tryz.ntmps176
    go_upto_region 1 with fail
    refine wp_region_held_drew (S := (fun w' => w'.cell? ⟨b, 0, none⟩ = some (.slice A h.objs.length c) ∧ w'.cell? ⟨b, 1, none⟩ = some (.int .i64 h.cap) ∧ w'.cell? ⟨b, 2, none⟩ = some (.int .i64 h.last) ∧ w'.cell? ⟨b, 3, none⟩ = some (.int .i64 s) ∧ w'.cell? ⟨b, 4, none⟩ = some (.slice (some ⟨p, o, none⟩) args.length da) ∧ w'.cell? ⟨p, o, none⟩ = some (.int .i64 a0) ∧ w'.cell? ⟨kb, 0, none⟩ = some (.func (.func 135) #[] #[]) ∧ Below w.heap.size w w')) (by kernel_rfl) ?_ (fun hH0 => ?_)
    · exact ⟨dcJ x0, dcJ x1, dcJ x2, dcJ x3, dcJ x4, dcJ q0, dcJ k0, (Below.refl _ _).drew⟩
    refine tkJ 0 oPM130 ?_
    refine tkJ 1 oPM131 ?_
    refine tkJ 2 oPM132 ?_
    refine tkJ 3 oPM133 ?_
    refine tkJ 4 oPM134 ?_
    refine tkJ 6 oPM135 ?_
    refine tkJ 7 oPM136 ?_
    refine tkJ 8 oPM137 ?_
    refine tkJ 9 oPM138 ?_
    refine tkJ 10 oPM139 ?_
    refine tkJ 11 oPM1310 ?_
    refine rdJ 5 oPM1311 fun K hK => ?_
    go_simp
    go_at_call 178
    have BB1 : Hid (Below w.heap.size w _) := (Below.refl _ _).drew
    refine (num_no13 hs _).mono ?_
    rintro e u9 ⟨rfl, rfl⟩
    exact ⟨rfl, pr_stop13 BB1.out (by rw [HRR.out, if_pos (.inl hs)]; rfl) (by decide)⟩
  cases ha : nB a0
  · go_enter Tryz.func176, Tryz.ntmps176
    go_upto_region 1 with fail
    refine wp_region_held_drew (S := (fun w' => w'.cell? ⟨b, 0, none⟩ = some (.slice A h.objs.length c) ∧ w'.cell? ⟨b, 1, none⟩ = some (.int .i64 h.cap) ∧ w'.cell? ⟨b, 2, none⟩ = some (.int .i64 h.last) ∧ w'.cell? ⟨b, 3, none⟩ = some (.int .i64 s) ∧ w'.cell? ⟨b, 4, none⟩ = some (.slice (some ⟨p, o, none⟩) args.length da) ∧ w'.cell? ⟨p, o, none⟩ = some (.int .i64 a0) ∧ w'.cell? ⟨kb, 0, none⟩ = some (.func (.func 135) #[] #[]) ∧ Below w.heap.size w w')) (by kernel_rfl) ?_ (fun hH0 => ?_)
    · exact ⟨dcJ x0, dcJ x1, dcJ x2, dcJ x3, dcJ x4, dcJ q0, dcJ k0, (Below.refl _ _).drew⟩
    refine tkJ 0 oPM130 ?_
    refine tkJ 1 oPM131 ?_
    refine tkJ 2 oPM132 ?_
    refine tkJ 3 oPM133 ?_
    refine tkJ 4 oPM134 ?_
    refine tkJ 6 oPM135 ?_
    refine tkJ 7 oPM136 ?_
    refine tkJ 8 oPM137 ?_
    refine tkJ 9 oPM138 ?_
    refine tkJ 10 oPM139 ?_
    refine tkJ 11 oPM1310 ?_
    refine rdJ 5 oPM1311 fun K hK => ?_
    go_simp
    go_at_call 178
    have BB1 : Hid (Below w.heap.size w _) := (Below.refl _ _).drew
    refine (num_ok13 hs _).mono ?_
    rintro e u1 ⟨rfl, rfl⟩
    refine hK.out _ _ ?_ (fun hH1 => ?_)
    · exact hH0
    clear hK K
    try simp only [apt12]
    refine rdJ 12 oPM1312 fun K hK => ?_
    go_simp
    go_at_call 178
    have BB2 : Hid (Below w.heap.size w _) := hH1.2.2.2.2.2.2.2
    refine (num_no13 ha _).mono ?_
    rintro e u9 ⟨rfl, rfl⟩
    exact ⟨rfl, pr_stop13 BB2.out (by rw [HRR.out, if_pos (.inr ha)]; rfl) (by decide)⟩
  cases hq : smB (nV s + nV a0)
  · go_enter Tryz.func176, Tryz.ntmps176
    go_upto_region 1 with fail
    refine wp_region_held_drew (S := (fun w' => w'.cell? ⟨b, 0, none⟩ = some (.slice A h.objs.length c) ∧ w'.cell? ⟨b, 1, none⟩ = some (.int .i64 h.cap) ∧ w'.cell? ⟨b, 2, none⟩ = some (.int .i64 h.last) ∧ w'.cell? ⟨b, 3, none⟩ = some (.int .i64 s) ∧ w'.cell? ⟨b, 4, none⟩ = some (.slice (some ⟨p, o, none⟩) args.length da) ∧ w'.cell? ⟨p, o, none⟩ = some (.int .i64 a0) ∧ w'.cell? ⟨kb, 0, none⟩ = some (.func (.func 135) #[] #[]) ∧ Below w.heap.size w w')) (by kernel_rfl) ?_ (fun hH0 => ?_)
    · exact ⟨dcJ x0, dcJ x1, dcJ x2, dcJ x3, dcJ x4, dcJ q0, dcJ k0, (Below.refl _ _).drew⟩
    refine tkJ 0 oPM130 ?_
    refine tkJ 1 oPM131 ?_
    refine tkJ 2 oPM132 ?_
    refine tkJ 3 oPM133 ?_
    refine tkJ 4 oPM134 ?_
    refine tkJ 6 oPM135 ?_
    refine tkJ 7 oPM136 ?_
    refine tkJ 8 oPM137 ?_
    refine tkJ 9 oPM138 ?_
    refine tkJ 10 oPM139 ?_
    refine tkJ 11 oPM1310 ?_
    refine rdJ 5 oPM1311 fun K hK => ?_
    go_simp
    go_at_call 178
    have BB1 : Hid (Below w.heap.size w _) := (Below.refl _ _).drew
    refine (num_ok13 hs _).mono ?_
    rintro e u1 ⟨rfl, rfl⟩
    refine hK.out _ _ ?_ (fun hH1 => ?_)
    · exact hH0
    clear hK K
    try simp only [apt12]
    refine rdJ 12 oPM1312 fun K hK => ?_
    go_simp
    go_at_call 178
    have BB2 : Hid (Below w.heap.size w _) := hH1.2.2.2.2.2.2.2
    refine (num_ok13 ha _).mono ?_
    rintro e u2 ⟨rfl, rfl⟩
    refine hK.out _ _ ?_ (fun hH2 => ?_)
    · exact hH1
    clear hK K
    try simp only [apt12]
    refine rdJ 13 oPM1313 fun K hK => ?_
    go_simp
    go_at_call 135
    have BB3 : Hid (Below w.heap.size w _) := hH2.2.2.2.2.2.2.2
    refine (add_any13 (n_bd13 hs) (n_bd13 ha) _).mono ?_
    rintro e u3 ⟨rfl, rfl⟩
    refine hK.out _ _ ?_ (fun hH3 => ?_)
    · exact hH2
    clear hK K
    try simp only [apt12]
    refine rdJ 14 oPM1314 fun K hK => ?_
    go_simp
    go_at_call 177
    have BB4 : Hid (Below w.heap.size w _) := hH3.2.2.2.2.2.2.2
    refine (small_no13 hq _).mono ?_
    rintro e u9 ⟨rfl, rfl⟩
    exact ⟨rfl, pr_stop13 BB4.out (by rw [HRR.out, if_neg (by rw [hs, ha]; simp), in_no13 hq]) (by decide)⟩
  go_enter Tryz.func176, Tryz.ntmps176
  go_upto_region 1 with fail
  refine wp_region_held_drew (S := (fun w' => w'.cell? ⟨b, 0, none⟩ = some (.slice A h.objs.length c) ∧ w'.cell? ⟨b, 1, none⟩ = some (.int .i64 h.cap) ∧ w'.cell? ⟨b, 2, none⟩ = some (.int .i64 h.last) ∧ w'.cell? ⟨b, 3, none⟩ = some (.int .i64 s) ∧ w'.cell? ⟨b, 4, none⟩ = some (.slice (some ⟨p, o, none⟩) args.length da) ∧ w'.cell? ⟨p, o, none⟩ = some (.int .i64 a0) ∧ w'.cell? ⟨kb, 0, none⟩ = some (.func (.func 135) #[] #[]) ∧ Below w.heap.size w w')) (by kernel_rfl) ?_ (fun hH0 => ?_)
  · exact ⟨dcJ x0, dcJ x1, dcJ x2, dcJ x3, dcJ x4, dcJ q0, dcJ k0, (Below.refl _ _).drew⟩
  refine tkJ 0 oPM130 ?_
  refine tkJ 1 oPM131 ?_
  refine tkJ 2 oPM132 ?_
  refine tkJ 3 oPM133 ?_
  refine tkJ 4 oPM134 ?_
  refine tkJ 6 oPM135 ?_
  refine tkJ 7 oPM136 ?_
  refine tkJ 8 oPM137 ?_
  refine tkJ 9 oPM138 ?_
  refine tkJ 10 oPM139 ?_
  refine tkJ 11 oPM1310 ?_
  refine rdJ 5 oPM1311 fun K hK => ?_
  go_simp
  go_at_call 178
  have BB1 : Hid (Below w.heap.size w _) := (Below.refl _ _).drew
  refine (num_ok13 hs _).mono ?_
  rintro e u1 ⟨rfl, rfl⟩
  refine hK.out _ _ ?_ (fun hH1 => ?_)
  · exact hH0
  clear hK K
  try simp only [apt12]
  refine rdJ 12 oPM1312 fun K hK => ?_
  go_simp
  go_at_call 178
  have BB2 : Hid (Below w.heap.size w _) := hH1.2.2.2.2.2.2.2
  refine (num_ok13 ha _).mono ?_
  rintro e u2 ⟨rfl, rfl⟩
  refine hK.out _ _ ?_ (fun hH2 => ?_)
  · exact hH1
  clear hK K
  try simp only [apt12]
  refine rdJ 13 oPM1313 fun K hK => ?_
  go_simp
  go_at_call 135
  have BB3 : Hid (Below w.heap.size w _) := hH2.2.2.2.2.2.2.2
  refine (add_any13 (n_bd13 hs) (n_bd13 ha) _).mono ?_
  rintro e u3 ⟨rfl, rfl⟩
  refine hK.out _ _ ?_ (fun hH3 => ?_)
  · exact hH2
  clear hK K
  try simp only [apt12]
  refine rdJ 14 oPM1314 fun K hK => ?_
  go_simp
  go_at_call 177
  have BB4 : Hid (Below w.heap.size w _) := hH3.2.2.2.2.2.2.2
  refine (small_ok13 hq _).mono ?_
  rintro e u4 ⟨rfl, rfl⟩
  refine hK.out _ _ ?_ (fun hH4 => ?_)
  · exact hH3
  clear hK K
  try simp only [apt12]
  refine tkJ 15 oPM1315 ?_
  refine wpAnyH_done (by kernel_rfl) ?_ _
  go_wp2_with fail
  go_ret
  exact pr_keep13 HI.out (hH4.2.2.2.2.2.2.2) (by rw [HRR.out, if_neg (by rw [hs, ha]; simp), in_ok13 hq])
set_option maxHeartbeats 1000000 in
theorem ofsub_any13 (b base : Nat) (h : Hp) (A : Option Addr) (c : Nat) (s : Int) (args : List Int) (SA : Option Addr) (da : Nat) (w : World) (I : In13 w b base h A c s args SA da) (hn : 0 < args.length) (kb : Nat) (hk : w.cell? ⟨kb, 0, none⟩ = some (.func (.func 136) #[] #[])) (_hkb : kb ≠ b) :
    Calls Tryz.prog 176 #[.pointer (some ⟨b, 0, none⟩), .pointer (some ⟨kb, 0, none⟩)] w (Po13 w b h A c s args.length SA da (if nB s = false ∨ nB (args.getD 0 0) = false then fa13 h else in13 h (nV s - nV (args.getD 0 0)))) := by
  obtain ⟨a0, ha0⟩ : ∃ a, a = args.getD 0 0 := ⟨_, rfl⟩
  rw [← ha0]
  have HI := hid I
  have HLA := hid (fun k => has_arg13 I.hall (k := k))
  obtain ⟨p, o, hSA, q0, hpb⟩ := I.arg (k := 0) (by omega)
  subst hSA
  rw [← ha0] at q0
  simp only [Nat.add_zero] at q0
  have hn0 : 0 < args.length := by omega
  have hn0I : (0 : Int) < (args.length : Int) := by omega
  have HPB := hid hpb
  obtain ⟨x0, x1, x2, x3, x4⟩ := I.box.c5
  have HA0 := hid ha0
  clear I hpb ha0
  have k0 := hk
  clear hk _hkb
  obtain ⟨rr, hrr⟩ : ∃ r : Rs, r = (if nB s = false ∨ nB a0 = false then fa13 h else in13 h (nV s - nV a0)) := ⟨_, rfl⟩
  rw [← hrr]
  have HRR := hid hrr
  clear hrr
  cases hs : nB s
  · go_enter Tryz.func176, Tryz.ntmps176
    go_upto_region 1 with fail
    refine wp_region_held_drew (S := (fun w' => w'.cell? ⟨b, 0, none⟩ = some (.slice A h.objs.length c) ∧ w'.cell? ⟨b, 1, none⟩ = some (.int .i64 h.cap) ∧ w'.cell? ⟨b, 2, none⟩ = some (.int .i64 h.last) ∧ w'.cell? ⟨b, 3, none⟩ = some (.int .i64 s) ∧ w'.cell? ⟨b, 4, none⟩ = some (.slice (some ⟨p, o, none⟩) args.length da) ∧ w'.cell? ⟨p, o, none⟩ = some (.int .i64 a0) ∧ w'.cell? ⟨kb, 0, none⟩ = some (.func (.func 136) #[] #[]) ∧ Below w.heap.size w w')) (by kernel_rfl) ?_ (fun hH0 => ?_)
    · exact ⟨dcJ x0, dcJ x1, dcJ x2, dcJ x3, dcJ x4, dcJ q0, dcJ k0, (Below.refl _ _).drew⟩
    refine tkJ 0 oPM130 ?_
    refine tkJ 1 oPM131 ?_
    refine tkJ 2 oPM132 ?_
    refine tkJ 3 oPM133 ?_
    refine tkJ 4 oPM134 ?_
    refine tkJ 6 oPM135 ?_
    refine tkJ 7 oPM136 ?_
    refine tkJ 8 oPM137 ?_
    refine tkJ 9 oPM138 ?_
    refine tkJ 10 oPM139 ?_
    refine tkJ 11 oPM1310 ?_
    refine rdJ 5 oPM1311 fun K hK => ?_
    go_simp
    go_at_call 178
    have BB1 : Hid (Below w.heap.size w _) := (Below.refl _ _).drew
    refine (num_no13 hs _).mono ?_
    rintro e u9 ⟨rfl, rfl⟩
    exact ⟨rfl, pr_stop13 BB1.out (by rw [HRR.out, if_pos (.inl hs)]; rfl) (by decide)⟩
  cases ha : nB a0
  · go_enter Tryz.func176, Tryz.ntmps176
    go_upto_region 1 with fail
    refine wp_region_held_drew (S := (fun w' => w'.cell? ⟨b, 0, none⟩ = some (.slice A h.objs.length c) ∧ w'.cell? ⟨b, 1, none⟩ = some (.int .i64 h.cap) ∧ w'.cell? ⟨b, 2, none⟩ = some (.int .i64 h.last) ∧ w'.cell? ⟨b, 3, none⟩ = some (.int .i64 s) ∧ w'.cell? ⟨b, 4, none⟩ = some (.slice (some ⟨p, o, none⟩) args.length da) ∧ w'.cell? ⟨p, o, none⟩ = some (.int .i64 a0) ∧ w'.cell? ⟨kb, 0, none⟩ = some (.func (.func 136) #[] #[]) ∧ Below w.heap.size w w')) (by kernel_rfl) ?_ (fun hH0 => ?_)
    · exact ⟨dcJ x0, dcJ x1, dcJ x2, dcJ x3, dcJ x4, dcJ q0, dcJ k0, (Below.refl _ _).drew⟩
    refine tkJ 0 oPM130 ?_
    refine tkJ 1 oPM131 ?_
    refine tkJ 2 oPM132 ?_
    refine tkJ 3 oPM133 ?_
    refine tkJ 4 oPM134 ?_
    refine tkJ 6 oPM135 ?_
    refine tkJ 7 oPM136 ?_
    refine tkJ 8 oPM137 ?_
    refine tkJ 9 oPM138 ?_
    refine tkJ 10 oPM139 ?_
    refine tkJ 11 oPM1310 ?_
    refine rdJ 5 oPM1311 fun K hK => ?_
    go_simp
    go_at_call 178
    have BB1 : Hid (Below w.heap.size w _) := (Below.refl _ _).drew
    refine (num_ok13 hs _).mono ?_
    rintro e u1 ⟨rfl, rfl⟩
    refine hK.out _ _ ?_ (fun hH1 => ?_)
    · exact hH0
    clear hK K
    try simp only [apt12]
    refine rdJ 12 oPM1312 fun K hK => ?_
    go_simp
    go_at_call 178
    have BB2 : Hid (Below w.heap.size w _) := hH1.2.2.2.2.2.2.2
    refine (num_no13 ha _).mono ?_
    rintro e u9 ⟨rfl, rfl⟩
    exact ⟨rfl, pr_stop13 BB2.out (by rw [HRR.out, if_pos (.inr ha)]; rfl) (by decide)⟩
  cases hq : smB (nV s - nV a0)
  · go_enter Tryz.func176, Tryz.ntmps176
    go_upto_region 1 with fail
    refine wp_region_held_drew (S := (fun w' => w'.cell? ⟨b, 0, none⟩ = some (.slice A h.objs.length c) ∧ w'.cell? ⟨b, 1, none⟩ = some (.int .i64 h.cap) ∧ w'.cell? ⟨b, 2, none⟩ = some (.int .i64 h.last) ∧ w'.cell? ⟨b, 3, none⟩ = some (.int .i64 s) ∧ w'.cell? ⟨b, 4, none⟩ = some (.slice (some ⟨p, o, none⟩) args.length da) ∧ w'.cell? ⟨p, o, none⟩ = some (.int .i64 a0) ∧ w'.cell? ⟨kb, 0, none⟩ = some (.func (.func 136) #[] #[]) ∧ Below w.heap.size w w')) (by kernel_rfl) ?_ (fun hH0 => ?_)
    · exact ⟨dcJ x0, dcJ x1, dcJ x2, dcJ x3, dcJ x4, dcJ q0, dcJ k0, (Below.refl _ _).drew⟩
    refine tkJ 0 oPM130 ?_
    refine tkJ 1 oPM131 ?_
    refine tkJ 2 oPM132 ?_
    refine tkJ 3 oPM133 ?_
    refine tkJ 4 oPM134 ?_
    refine tkJ 6 oPM135 ?_
    refine tkJ 7 oPM136 ?_
    refine tkJ 8 oPM137 ?_
    refine tkJ 9 oPM138 ?_
    refine tkJ 10 oPM139 ?_
    refine tkJ 11 oPM1310 ?_
    refine rdJ 5 oPM1311 fun K hK => ?_
    go_simp
    go_at_call 178
    have BB1 : Hid (Below w.heap.size w _) := (Below.refl _ _).drew
    refine (num_ok13 hs _).mono ?_
    rintro e u1 ⟨rfl, rfl⟩
    refine hK.out _ _ ?_ (fun hH1 => ?_)
    · exact hH0
    clear hK K
    try simp only [apt12]
    refine rdJ 12 oPM1312 fun K hK => ?_
    go_simp
    go_at_call 178
    have BB2 : Hid (Below w.heap.size w _) := hH1.2.2.2.2.2.2.2
    refine (num_ok13 ha _).mono ?_
    rintro e u2 ⟨rfl, rfl⟩
    refine hK.out _ _ ?_ (fun hH2 => ?_)
    · exact hH1
    clear hK K
    try simp only [apt12]
    refine rdJ 13 oPM1313 fun K hK => ?_
    go_simp
    go_at_call 136
    have BB3 : Hid (Below w.heap.size w _) := hH2.2.2.2.2.2.2.2
    refine (sub_any13 (n_bd13 hs) (n_bd13 ha) _).mono ?_
    rintro e u3 ⟨rfl, rfl⟩
    refine hK.out _ _ ?_ (fun hH3 => ?_)
    · exact hH2
    clear hK K
    try simp only [apt12]
    refine rdJ 14 oPM1314 fun K hK => ?_
    go_simp
    go_at_call 177
    have BB4 : Hid (Below w.heap.size w _) := hH3.2.2.2.2.2.2.2
    refine (small_no13 hq _).mono ?_
    rintro e u9 ⟨rfl, rfl⟩
    exact ⟨rfl, pr_stop13 BB4.out (by rw [HRR.out, if_neg (by rw [hs, ha]; simp), in_no13 hq]) (by decide)⟩
  go_enter Tryz.func176, Tryz.ntmps176
  go_upto_region 1 with fail
  refine wp_region_held_drew (S := (fun w' => w'.cell? ⟨b, 0, none⟩ = some (.slice A h.objs.length c) ∧ w'.cell? ⟨b, 1, none⟩ = some (.int .i64 h.cap) ∧ w'.cell? ⟨b, 2, none⟩ = some (.int .i64 h.last) ∧ w'.cell? ⟨b, 3, none⟩ = some (.int .i64 s) ∧ w'.cell? ⟨b, 4, none⟩ = some (.slice (some ⟨p, o, none⟩) args.length da) ∧ w'.cell? ⟨p, o, none⟩ = some (.int .i64 a0) ∧ w'.cell? ⟨kb, 0, none⟩ = some (.func (.func 136) #[] #[]) ∧ Below w.heap.size w w')) (by kernel_rfl) ?_ (fun hH0 => ?_)
  · exact ⟨dcJ x0, dcJ x1, dcJ x2, dcJ x3, dcJ x4, dcJ q0, dcJ k0, (Below.refl _ _).drew⟩
  refine tkJ 0 oPM130 ?_
  refine tkJ 1 oPM131 ?_
  refine tkJ 2 oPM132 ?_
  refine tkJ 3 oPM133 ?_
  refine tkJ 4 oPM134 ?_
  refine tkJ 6 oPM135 ?_
  refine tkJ 7 oPM136 ?_
  refine tkJ 8 oPM137 ?_
  refine tkJ 9 oPM138 ?_
  refine tkJ 10 oPM139 ?_
  refine tkJ 11 oPM1310 ?_
  refine rdJ 5 oPM1311 fun K hK => ?_
  go_simp
  go_at_call 178
  have BB1 : Hid (Below w.heap.size w _) := (Below.refl _ _).drew
  refine (num_ok13 hs _).mono ?_
  rintro e u1 ⟨rfl, rfl⟩
  refine hK.out _ _ ?_ (fun hH1 => ?_)
  · exact hH0
  clear hK K
  try simp only [apt12]
  refine rdJ 12 oPM1312 fun K hK => ?_
  go_simp
  go_at_call 178
  have BB2 : Hid (Below w.heap.size w _) := hH1.2.2.2.2.2.2.2
  refine (num_ok13 ha _).mono ?_
  rintro e u2 ⟨rfl, rfl⟩
  refine hK.out _ _ ?_ (fun hH2 => ?_)
  · exact hH1
  clear hK K
  try simp only [apt12]
  refine rdJ 13 oPM1313 fun K hK => ?_
  go_simp
  go_at_call 136
  have BB3 : Hid (Below w.heap.size w _) := hH2.2.2.2.2.2.2.2
  refine (sub_any13 (n_bd13 hs) (n_bd13 ha) _).mono ?_
  rintro e u3 ⟨rfl, rfl⟩
  refine hK.out _ _ ?_ (fun hH3 => ?_)
  · exact hH2
  clear hK K
  try simp only [apt12]
  refine rdJ 14 oPM1314 fun K hK => ?_
  go_simp
  go_at_call 177
  have BB4 : Hid (Below w.heap.size w _) := hH3.2.2.2.2.2.2.2
  refine (small_ok13 hq _).mono ?_
  rintro e u4 ⟨rfl, rfl⟩
  refine hK.out _ _ ?_ (fun hH4 => ?_)
  · exact hH3
  clear hK K
  try simp only [apt12]
  refine tkJ 15 oPM1315 ?_
  refine wpAnyH_done (by kernel_rfl) ?_ _
  go_wp2_with fail
  go_ret
  exact pr_keep13 HI.out (hH4.2.2.2.2.2.2.2) (by rw [HRR.out, if_neg (by rw [hs, ha]; simp), in_ok13 hq])
set_option maxHeartbeats 1000000 in
theorem ofmul_any13 (b base : Nat) (h : Hp) (A : Option Addr) (c : Nat) (s : Int) (args : List Int) (SA : Option Addr) (da : Nat) (w : World) (I : In13 w b base h A c s args SA da) (hn : 0 < args.length) (kb : Nat) (hk : w.cell? ⟨kb, 0, none⟩ = some (.func (.func 137) #[] #[])) (_hkb : kb ≠ b) :
    Calls Tryz.prog 176 #[.pointer (some ⟨b, 0, none⟩), .pointer (some ⟨kb, 0, none⟩)] w (Po13 w b h A c s args.length SA da (if nB s = false ∨ nB (args.getD 0 0) = false then fa13 h else in13 h (nV s * nV (args.getD 0 0)))) := by
  obtain ⟨a0, ha0⟩ : ∃ a, a = args.getD 0 0 := ⟨_, rfl⟩
  rw [← ha0]
  have HI := hid I
  have HLA := hid (fun k => has_arg13 I.hall (k := k))
  obtain ⟨p, o, hSA, q0, hpb⟩ := I.arg (k := 0) (by omega)
  subst hSA
  rw [← ha0] at q0
  simp only [Nat.add_zero] at q0
  have hn0 : 0 < args.length := by omega
  have hn0I : (0 : Int) < (args.length : Int) := by omega
  have HPB := hid hpb
  obtain ⟨x0, x1, x2, x3, x4⟩ := I.box.c5
  have HA0 := hid ha0
  clear I hpb ha0
  have k0 := hk
  clear hk _hkb
  obtain ⟨rr, hrr⟩ : ∃ r : Rs, r = (if nB s = false ∨ nB a0 = false then fa13 h else in13 h (nV s * nV a0)) := ⟨_, rfl⟩
  rw [← hrr]
  have HRR := hid hrr
  clear hrr
  cases hs : nB s
  · go_enter Tryz.func176, Tryz.ntmps176
    go_upto_region 1 with fail
    refine wp_region_held_drew (S := (fun w' => w'.cell? ⟨b, 0, none⟩ = some (.slice A h.objs.length c) ∧ w'.cell? ⟨b, 1, none⟩ = some (.int .i64 h.cap) ∧ w'.cell? ⟨b, 2, none⟩ = some (.int .i64 h.last) ∧ w'.cell? ⟨b, 3, none⟩ = some (.int .i64 s) ∧ w'.cell? ⟨b, 4, none⟩ = some (.slice (some ⟨p, o, none⟩) args.length da) ∧ w'.cell? ⟨p, o, none⟩ = some (.int .i64 a0) ∧ w'.cell? ⟨kb, 0, none⟩ = some (.func (.func 137) #[] #[]) ∧ Below w.heap.size w w')) (by kernel_rfl) ?_ (fun hH0 => ?_)
    · exact ⟨dcJ x0, dcJ x1, dcJ x2, dcJ x3, dcJ x4, dcJ q0, dcJ k0, (Below.refl _ _).drew⟩
    refine tkJ 0 oPM130 ?_
    refine tkJ 1 oPM131 ?_
    refine tkJ 2 oPM132 ?_
    refine tkJ 3 oPM133 ?_
    refine tkJ 4 oPM134 ?_
    refine tkJ 6 oPM135 ?_
    refine tkJ 7 oPM136 ?_
    refine tkJ 8 oPM137 ?_
    refine tkJ 9 oPM138 ?_
    refine tkJ 10 oPM139 ?_
    refine tkJ 11 oPM1310 ?_
    refine rdJ 5 oPM1311 fun K hK => ?_
    go_simp
    go_at_call 178
    have BB1 : Hid (Below w.heap.size w _) := (Below.refl _ _).drew
    refine (num_no13 hs _).mono ?_
    rintro e u9 ⟨rfl, rfl⟩
    exact ⟨rfl, pr_stop13 BB1.out (by rw [HRR.out, if_pos (.inl hs)]; rfl) (by decide)⟩
  cases ha : nB a0
  · go_enter Tryz.func176, Tryz.ntmps176
    go_upto_region 1 with fail
    refine wp_region_held_drew (S := (fun w' => w'.cell? ⟨b, 0, none⟩ = some (.slice A h.objs.length c) ∧ w'.cell? ⟨b, 1, none⟩ = some (.int .i64 h.cap) ∧ w'.cell? ⟨b, 2, none⟩ = some (.int .i64 h.last) ∧ w'.cell? ⟨b, 3, none⟩ = some (.int .i64 s) ∧ w'.cell? ⟨b, 4, none⟩ = some (.slice (some ⟨p, o, none⟩) args.length da) ∧ w'.cell? ⟨p, o, none⟩ = some (.int .i64 a0) ∧ w'.cell? ⟨kb, 0, none⟩ = some (.func (.func 137) #[] #[]) ∧ Below w.heap.size w w')) (by kernel_rfl) ?_ (fun hH0 => ?_)
    · exact ⟨dcJ x0, dcJ x1, dcJ x2, dcJ x3, dcJ x4, dcJ q0, dcJ k0, (Below.refl _ _).drew⟩
    refine tkJ 0 oPM130 ?_
    refine tkJ 1 oPM131 ?_
    refine tkJ 2 oPM132 ?_
    refine tkJ 3 oPM133 ?_
    refine tkJ 4 oPM134 ?_
    refine tkJ 6 oPM135 ?_
    refine tkJ 7 oPM136 ?_
    refine tkJ 8 oPM137 ?_
    refine tkJ 9 oPM138 ?_
    refine tkJ 10 oPM139 ?_
    refine tkJ 11 oPM1310 ?_
    refine rdJ 5 oPM1311 fun K hK => ?_
    go_simp
    go_at_call 178
    have BB1 : Hid (Below w.heap.size w _) := (Below.refl _ _).drew
    refine (num_ok13 hs _).mono ?_
    rintro e u1 ⟨rfl, rfl⟩
    refine hK.out _ _ ?_ (fun hH1 => ?_)
    · exact hH0
    clear hK K
    try simp only [apt12]
    refine rdJ 12 oPM1312 fun K hK => ?_
    go_simp
    go_at_call 178
    have BB2 : Hid (Below w.heap.size w _) := hH1.2.2.2.2.2.2.2
    refine (num_no13 ha _).mono ?_
    rintro e u9 ⟨rfl, rfl⟩
    exact ⟨rfl, pr_stop13 BB2.out (by rw [HRR.out, if_pos (.inr ha)]; rfl) (by decide)⟩
  cases hq : smB (nV s * nV a0)
  · go_enter Tryz.func176, Tryz.ntmps176
    go_upto_region 1 with fail
    refine wp_region_held_drew (S := (fun w' => w'.cell? ⟨b, 0, none⟩ = some (.slice A h.objs.length c) ∧ w'.cell? ⟨b, 1, none⟩ = some (.int .i64 h.cap) ∧ w'.cell? ⟨b, 2, none⟩ = some (.int .i64 h.last) ∧ w'.cell? ⟨b, 3, none⟩ = some (.int .i64 s) ∧ w'.cell? ⟨b, 4, none⟩ = some (.slice (some ⟨p, o, none⟩) args.length da) ∧ w'.cell? ⟨p, o, none⟩ = some (.int .i64 a0) ∧ w'.cell? ⟨kb, 0, none⟩ = some (.func (.func 137) #[] #[]) ∧ Below w.heap.size w w')) (by kernel_rfl) ?_ (fun hH0 => ?_)
    · exact ⟨dcJ x0, dcJ x1, dcJ x2, dcJ x3, dcJ x4, dcJ q0, dcJ k0, (Below.refl _ _).drew⟩
    refine tkJ 0 oPM130 ?_
    refine tkJ 1 oPM131 ?_
    refine tkJ 2 oPM132 ?_
    refine tkJ 3 oPM133 ?_
    refine tkJ 4 oPM134 ?_
    refine tkJ 6 oPM135 ?_
    refine tkJ 7 oPM136 ?_
    refine tkJ 8 oPM137 ?_
    refine tkJ 9 oPM138 ?_
    refine tkJ 10 oPM139 ?_
    refine tkJ 11 oPM1310 ?_
    refine rdJ 5 oPM1311 fun K hK => ?_
    go_simp
    go_at_call 178
    have BB1 : Hid (Below w.heap.size w _) := (Below.refl _ _).drew
    refine (num_ok13 hs _).mono ?_
    rintro e u1 ⟨rfl, rfl⟩
    refine hK.out _ _ ?_ (fun hH1 => ?_)
    · exact hH0
    clear hK K
    try simp only [apt12]
    refine rdJ 12 oPM1312 fun K hK => ?_
    go_simp
    go_at_call 178
    have BB2 : Hid (Below w.heap.size w _) := hH1.2.2.2.2.2.2.2
    refine (num_ok13 ha _).mono ?_
    rintro e u2 ⟨rfl, rfl⟩
    refine hK.out _ _ ?_ (fun hH2 => ?_)
    · exact hH1
    clear hK K
    try simp only [apt12]
    refine rdJ 13 oPM1313 fun K hK => ?_
    go_simp
    go_at_call 137
    have BB3 : Hid (Below w.heap.size w _) := hH2.2.2.2.2.2.2.2
    refine (mul_any13 (n_bd13 hs) (n_bd13 ha) _).mono ?_
    rintro e u3 ⟨rfl, rfl⟩
    refine hK.out _ _ ?_ (fun hH3 => ?_)
    · exact hH2
    clear hK K
    try simp only [apt12]
    refine rdJ 14 oPM1314 fun K hK => ?_
    go_simp
    go_at_call 177
    have BB4 : Hid (Below w.heap.size w _) := hH3.2.2.2.2.2.2.2
    refine (small_no13 hq _).mono ?_
    rintro e u9 ⟨rfl, rfl⟩
    exact ⟨rfl, pr_stop13 BB4.out (by rw [HRR.out, if_neg (by rw [hs, ha]; simp), in_no13 hq]) (by decide)⟩
  go_enter Tryz.func176, Tryz.ntmps176
  go_upto_region 1 with fail
  refine wp_region_held_drew (S := (fun w' => w'.cell? ⟨b, 0, none⟩ = some (.slice A h.objs.length c) ∧ w'.cell? ⟨b, 1, none⟩ = some (.int .i64 h.cap) ∧ w'.cell? ⟨b, 2, none⟩ = some (.int .i64 h.last) ∧ w'.cell? ⟨b, 3, none⟩ = some (.int .i64 s) ∧ w'.cell? ⟨b, 4, none⟩ = some (.slice (some ⟨p, o, none⟩) args.length da) ∧ w'.cell? ⟨p, o, none⟩ = some (.int .i64 a0) ∧ w'.cell? ⟨kb, 0, none⟩ = some (.func (.func 137) #[] #[]) ∧ Below w.heap.size w w')) (by kernel_rfl) ?_ (fun hH0 => ?_)
  · exact ⟨dcJ x0, dcJ x1, dcJ x2, dcJ x3, dcJ x4, dcJ q0, dcJ k0, (Below.refl _ _).drew⟩
  refine tkJ 0 oPM130 ?_
  refine tkJ 1 oPM131 ?_
  refine tkJ 2 oPM132 ?_
  refine tkJ 3 oPM133 ?_
  refine tkJ 4 oPM134 ?_
  refine tkJ 6 oPM135 ?_
  refine tkJ 7 oPM136 ?_
  refine tkJ 8 oPM137 ?_
  refine tkJ 9 oPM138 ?_
  refine tkJ 10 oPM139 ?_
  refine tkJ 11 oPM1310 ?_
  refine rdJ 5 oPM1311 fun K hK => ?_
  go_simp
  go_at_call 178
  have BB1 : Hid (Below w.heap.size w _) := (Below.refl _ _).drew
  refine (num_ok13 hs _).mono ?_
  rintro e u1 ⟨rfl, rfl⟩
  refine hK.out _ _ ?_ (fun hH1 => ?_)
  · exact hH0
  clear hK K
  try simp only [apt12]
  refine rdJ 12 oPM1312 fun K hK => ?_
  go_simp
  go_at_call 178
  have BB2 : Hid (Below w.heap.size w _) := hH1.2.2.2.2.2.2.2
  refine (num_ok13 ha _).mono ?_
  rintro e u2 ⟨rfl, rfl⟩
  refine hK.out _ _ ?_ (fun hH2 => ?_)
  · exact hH1
  clear hK K
  try simp only [apt12]
  refine rdJ 13 oPM1313 fun K hK => ?_
  go_simp
  go_at_call 137
  have BB3 : Hid (Below w.heap.size w _) := hH2.2.2.2.2.2.2.2
  refine (mul_any13 (n_bd13 hs) (n_bd13 ha) _).mono ?_
  rintro e u3 ⟨rfl, rfl⟩
  refine hK.out _ _ ?_ (fun hH3 => ?_)
  · exact hH2
  clear hK K
  try simp only [apt12]
  refine rdJ 14 oPM1314 fun K hK => ?_
  go_simp
  go_at_call 177
  have BB4 : Hid (Below w.heap.size w _) := hH3.2.2.2.2.2.2.2
  refine (small_ok13 hq _).mono ?_
  rintro e u4 ⟨rfl, rfl⟩
  refine hK.out _ _ ?_ (fun hH4 => ?_)
  · exact hH3
  clear hK K
  try simp only [apt12]
  refine tkJ 15 oPM1315 ?_
  refine wpAnyH_done (by kernel_rfl) ?_ _
  go_wp2_with fail
  go_ret
  exact pr_keep13 HI.out (hH4.2.2.2.2.2.2.2) (by rw [HRR.out, if_neg (by rw [hs, ha]; simp), in_ok13 hq])
set_option maxHeartbeats 1000000 in
theorem ofquo_any13 (b base : Nat) (h : Hp) (A : Option Addr) (c : Nat) (s : Int) (args : List Int) (SA : Option Addr) (da : Nat) (w : World) (I : In13 w b base h A c s args SA da) (hn : 0 < args.length) (kb : Nat) (hk : w.cell? ⟨kb, 0, none⟩ = some (.func (.func 138) #[] #[])) (_hkb : kb ≠ b) :
    Calls Tryz.prog 176 #[.pointer (some ⟨b, 0, none⟩), .pointer (some ⟨kb, 0, none⟩)] w (Po13 w b h A c s args.length SA da (if nB s = false ∨ nB (args.getD 0 0) = false then fa13 h else if nV (args.getD 0 0) = 0 then fa13 h else in13 h ((nV s).fdiv (nV (args.getD 0 0))))) := by
  obtain ⟨a0, ha0⟩ : ∃ a, a = args.getD 0 0 := ⟨_, rfl⟩
  rw [← ha0]
  have HI := hid I
  have HLA := hid (fun k => has_arg13 I.hall (k := k))
  obtain ⟨p, o, hSA, q0, hpb⟩ := I.arg (k := 0) (by omega)
  subst hSA
  rw [← ha0] at q0
  simp only [Nat.add_zero] at q0
  have hn0 : 0 < args.length := by omega
  have hn0I : (0 : Int) < (args.length : Int) := by omega
  have HPB := hid hpb
  obtain ⟨x0, x1, x2, x3, x4⟩ := I.box.c5
  have HA0 := hid ha0
  clear I hpb ha0
  have k0 := hk
  clear hk _hkb
  obtain ⟨rr, hrr⟩ : ∃ r : Rs, r = (if nB s = false ∨ nB a0 = false then fa13 h else if nV a0 = 0 then fa13 h else in13 h ((nV s).fdiv (nV a0))) := ⟨_, rfl⟩
  rw [← hrr]
  have HRR := hid hrr
  clear hrr
  cases hs : nB s
  · go_enter Tryz.func176, Tryz.ntmps176
    go_upto_region 1 with fail
    refine wp_region_held_drew (S := (fun w' => w'.cell? ⟨b, 0, none⟩ = some (.slice A h.objs.length c) ∧ w'.cell? ⟨b, 1, none⟩ = some (.int .i64 h.cap) ∧ w'.cell? ⟨b, 2, none⟩ = some (.int .i64 h.last) ∧ w'.cell? ⟨b, 3, none⟩ = some (.int .i64 s) ∧ w'.cell? ⟨b, 4, none⟩ = some (.slice (some ⟨p, o, none⟩) args.length da) ∧ w'.cell? ⟨p, o, none⟩ = some (.int .i64 a0) ∧ w'.cell? ⟨kb, 0, none⟩ = some (.func (.func 138) #[] #[]) ∧ Below w.heap.size w w')) (by kernel_rfl) ?_ (fun hH0 => ?_)
    · exact ⟨dcJ x0, dcJ x1, dcJ x2, dcJ x3, dcJ x4, dcJ q0, dcJ k0, (Below.refl _ _).drew⟩
    refine tkJ 0 oPM130 ?_
    refine tkJ 1 oPM131 ?_
    refine tkJ 2 oPM132 ?_
    refine tkJ 3 oPM133 ?_
    refine tkJ 4 oPM134 ?_
    refine tkJ 6 oPM135 ?_
    refine tkJ 7 oPM136 ?_
    refine tkJ 8 oPM137 ?_
    refine tkJ 9 oPM138 ?_
    refine tkJ 10 oPM139 ?_
    refine tkJ 11 oPM1310 ?_
    refine rdJ 5 oPM1311 fun K hK => ?_
    go_simp
    go_at_call 178
    have BB1 : Hid (Below w.heap.size w _) := (Below.refl _ _).drew
    refine (num_no13 hs _).mono ?_
    rintro e u9 ⟨rfl, rfl⟩
    exact ⟨rfl, pr_stop13 BB1.out (by rw [HRR.out, if_pos (.inl hs)]; rfl) (by decide)⟩
  cases ha : nB a0
  · go_enter Tryz.func176, Tryz.ntmps176
    go_upto_region 1 with fail
    refine wp_region_held_drew (S := (fun w' => w'.cell? ⟨b, 0, none⟩ = some (.slice A h.objs.length c) ∧ w'.cell? ⟨b, 1, none⟩ = some (.int .i64 h.cap) ∧ w'.cell? ⟨b, 2, none⟩ = some (.int .i64 h.last) ∧ w'.cell? ⟨b, 3, none⟩ = some (.int .i64 s) ∧ w'.cell? ⟨b, 4, none⟩ = some (.slice (some ⟨p, o, none⟩) args.length da) ∧ w'.cell? ⟨p, o, none⟩ = some (.int .i64 a0) ∧ w'.cell? ⟨kb, 0, none⟩ = some (.func (.func 138) #[] #[]) ∧ Below w.heap.size w w')) (by kernel_rfl) ?_ (fun hH0 => ?_)
    · exact ⟨dcJ x0, dcJ x1, dcJ x2, dcJ x3, dcJ x4, dcJ q0, dcJ k0, (Below.refl _ _).drew⟩
    refine tkJ 0 oPM130 ?_
    refine tkJ 1 oPM131 ?_
    refine tkJ 2 oPM132 ?_
    refine tkJ 3 oPM133 ?_
    refine tkJ 4 oPM134 ?_
    refine tkJ 6 oPM135 ?_
    refine tkJ 7 oPM136 ?_
    refine tkJ 8 oPM137 ?_
    refine tkJ 9 oPM138 ?_
    refine tkJ 10 oPM139 ?_
    refine tkJ 11 oPM1310 ?_
    refine rdJ 5 oPM1311 fun K hK => ?_
    go_simp
    go_at_call 178
    have BB1 : Hid (Below w.heap.size w _) := (Below.refl _ _).drew
    refine (num_ok13 hs _).mono ?_
    rintro e u1 ⟨rfl, rfl⟩
    refine hK.out _ _ ?_ (fun hH1 => ?_)
    · exact hH0
    clear hK K
    try simp only [apt12]
    refine rdJ 12 oPM1312 fun K hK => ?_
    go_simp
    go_at_call 178
    have BB2 : Hid (Below w.heap.size w _) := hH1.2.2.2.2.2.2.2
    refine (num_no13 ha _).mono ?_
    rintro e u9 ⟨rfl, rfl⟩
    exact ⟨rfl, pr_stop13 BB2.out (by rw [HRR.out, if_pos (.inr ha)]; rfl) (by decide)⟩
  by_cases h0 : nV a0 = 0
  · go_enter Tryz.func176, Tryz.ntmps176
    go_upto_region 1 with fail
    refine wp_region_held_drew (S := (fun w' => w'.cell? ⟨b, 0, none⟩ = some (.slice A h.objs.length c) ∧ w'.cell? ⟨b, 1, none⟩ = some (.int .i64 h.cap) ∧ w'.cell? ⟨b, 2, none⟩ = some (.int .i64 h.last) ∧ w'.cell? ⟨b, 3, none⟩ = some (.int .i64 s) ∧ w'.cell? ⟨b, 4, none⟩ = some (.slice (some ⟨p, o, none⟩) args.length da) ∧ w'.cell? ⟨p, o, none⟩ = some (.int .i64 a0) ∧ w'.cell? ⟨kb, 0, none⟩ = some (.func (.func 138) #[] #[]) ∧ Below w.heap.size w w')) (by kernel_rfl) ?_ (fun hH0 => ?_)
    · exact ⟨dcJ x0, dcJ x1, dcJ x2, dcJ x3, dcJ x4, dcJ q0, dcJ k0, (Below.refl _ _).drew⟩
    refine tkJ 0 oPM130 ?_
    refine tkJ 1 oPM131 ?_
    refine tkJ 2 oPM132 ?_
    refine tkJ 3 oPM133 ?_
    refine tkJ 4 oPM134 ?_
    refine tkJ 6 oPM135 ?_
    refine tkJ 7 oPM136 ?_
    refine tkJ 8 oPM137 ?_
    refine tkJ 9 oPM138 ?_
    refine tkJ 10 oPM139 ?_
    refine tkJ 11 oPM1310 ?_
    refine rdJ 5 oPM1311 fun K hK => ?_
    go_simp
    go_at_call 178
    have BB1 : Hid (Below w.heap.size w _) := (Below.refl _ _).drew
    refine (num_ok13 hs _).mono ?_
    rintro e u1 ⟨rfl, rfl⟩
    refine hK.out _ _ ?_ (fun hH1 => ?_)
    · exact hH0
    clear hK K
    try simp only [apt12]
    refine rdJ 12 oPM1312 fun K hK => ?_
    go_simp
    go_at_call 178
    have BB2 : Hid (Below w.heap.size w _) := hH1.2.2.2.2.2.2.2
    refine (num_ok13 ha _).mono ?_
    rintro e u2 ⟨rfl, rfl⟩
    refine hK.out _ _ ?_ (fun hH2 => ?_)
    · exact hH1
    clear hK K
    try simp only [apt12]
    refine rdJ 13 oPM1313 fun K hK => ?_
    go_simp
    go_at_call 138
    have BB3 : Hid (Below w.heap.size w _) := hH2.2.2.2.2.2.2.2
    refine (quot_no13 _ _).mono ?_
    rintro e u9 ⟨rfl, rfl⟩
    exact ⟨rfl, pr_stop13 BB3.out (by rw [HRR.out, if_neg (by rw [hs, ha]; simp), if_pos h0]; rfl) (by decide)⟩
  cases hq : smB ((nV s).fdiv (nV a0))
  · go_enter Tryz.func176, Tryz.ntmps176
    go_upto_region 1 with fail
    refine wp_region_held_drew (S := (fun w' => w'.cell? ⟨b, 0, none⟩ = some (.slice A h.objs.length c) ∧ w'.cell? ⟨b, 1, none⟩ = some (.int .i64 h.cap) ∧ w'.cell? ⟨b, 2, none⟩ = some (.int .i64 h.last) ∧ w'.cell? ⟨b, 3, none⟩ = some (.int .i64 s) ∧ w'.cell? ⟨b, 4, none⟩ = some (.slice (some ⟨p, o, none⟩) args.length da) ∧ w'.cell? ⟨p, o, none⟩ = some (.int .i64 a0) ∧ w'.cell? ⟨kb, 0, none⟩ = some (.func (.func 138) #[] #[]) ∧ Below w.heap.size w w')) (by kernel_rfl) ?_ (fun hH0 => ?_)
    · exact ⟨dcJ x0, dcJ x1, dcJ x2, dcJ x3, dcJ x4, dcJ q0, dcJ k0, (Below.refl _ _).drew⟩
    refine tkJ 0 oPM130 ?_
    refine tkJ 1 oPM131 ?_
    refine tkJ 2 oPM132 ?_
    refine tkJ 3 oPM133 ?_
    refine tkJ 4 oPM134 ?_
    refine tkJ 6 oPM135 ?_
    refine tkJ 7 oPM136 ?_
    refine tkJ 8 oPM137 ?_
    refine tkJ 9 oPM138 ?_
    refine tkJ 10 oPM139 ?_
    refine tkJ 11 oPM1310 ?_
    refine rdJ 5 oPM1311 fun K hK => ?_
    go_simp
    go_at_call 178
    have BB1 : Hid (Below w.heap.size w _) := (Below.refl _ _).drew
    refine (num_ok13 hs _).mono ?_
    rintro e u1 ⟨rfl, rfl⟩
    refine hK.out _ _ ?_ (fun hH1 => ?_)
    · exact hH0
    clear hK K
    try simp only [apt12]
    refine rdJ 12 oPM1312 fun K hK => ?_
    go_simp
    go_at_call 178
    have BB2 : Hid (Below w.heap.size w _) := hH1.2.2.2.2.2.2.2
    refine (num_ok13 ha _).mono ?_
    rintro e u2 ⟨rfl, rfl⟩
    refine hK.out _ _ ?_ (fun hH2 => ?_)
    · exact hH1
    clear hK K
    try simp only [apt12]
    refine rdJ 13 oPM1313 fun K hK => ?_
    go_simp
    go_at_call 138
    have BB3 : Hid (Below w.heap.size w _) := hH2.2.2.2.2.2.2.2
    refine (quot_any13 (n_bd13 hs) (n_bd13 ha) h0 _).mono ?_
    rintro e u3 ⟨rfl, rfl⟩
    refine hK.out _ _ ?_ (fun hH3 => ?_)
    · exact hH2
    clear hK K
    try simp only [apt12]
    refine rdJ 14 oPM1314 fun K hK => ?_
    go_simp
    go_at_call 177
    have BB4 : Hid (Below w.heap.size w _) := hH3.2.2.2.2.2.2.2
    refine (small_no13 hq _).mono ?_
    rintro e u9 ⟨rfl, rfl⟩
    exact ⟨rfl, pr_stop13 BB4.out (by rw [HRR.out, if_neg (by rw [hs, ha]; simp), if_neg h0, in_no13 hq]) (by decide)⟩
  go_enter Tryz.func176, Tryz.ntmps176
  go_upto_region 1 with fail
  refine wp_region_held_drew (S := (fun w' => w'.cell? ⟨b, 0, none⟩ = some (.slice A h.objs.length c) ∧ w'.cell? ⟨b, 1, none⟩ = some (.int .i64 h.cap) ∧ w'.cell? ⟨b, 2, none⟩ = some (.int .i64 h.last) ∧ w'.cell? ⟨b, 3, none⟩ = some (.int .i64 s) ∧ w'.cell? ⟨b, 4, none⟩ = some (.slice (some ⟨p, o, none⟩) args.length da) ∧ w'.cell? ⟨p, o, none⟩ = some (.int .i64 a0) ∧ w'.cell? ⟨kb, 0, none⟩ = some (.func (.func 138) #[] #[]) ∧ Below w.heap.size w w')) (by kernel_rfl) ?_ (fun hH0 => ?_)
  · exact ⟨dcJ x0, dcJ x1, dcJ x2, dcJ x3, dcJ x4, dcJ q0, dcJ k0, (Below.refl _ _).drew⟩
  refine tkJ 0 oPM130 ?_
  refine tkJ 1 oPM131 ?_
  refine tkJ 2 oPM132 ?_
  refine tkJ 3 oPM133 ?_
  refine tkJ 4 oPM134 ?_
  refine tkJ 6 oPM135 ?_
  refine tkJ 7 oPM136 ?_
  refine tkJ 8 oPM137 ?_
  refine tkJ 9 oPM138 ?_
  refine tkJ 10 oPM139 ?_
  refine tkJ 11 oPM1310 ?_
  refine rdJ 5 oPM1311 fun K hK => ?_
  go_simp
  go_at_call 178
  have BB1 : Hid (Below w.heap.size w _) := (Below.refl _ _).drew
  refine (num_ok13 hs _).mono ?_
  rintro e u1 ⟨rfl, rfl⟩
  refine hK.out _ _ ?_ (fun hH1 => ?_)
  · exact hH0
  clear hK K
  try simp only [apt12]
  refine rdJ 12 oPM1312 fun K hK => ?_
  go_simp
  go_at_call 178
  have BB2 : Hid (Below w.heap.size w _) := hH1.2.2.2.2.2.2.2
  refine (num_ok13 ha _).mono ?_
  rintro e u2 ⟨rfl, rfl⟩
  refine hK.out _ _ ?_ (fun hH2 => ?_)
  · exact hH1
  clear hK K
  try simp only [apt12]
  refine rdJ 13 oPM1313 fun K hK => ?_
  go_simp
  go_at_call 138
  have BB3 : Hid (Below w.heap.size w _) := hH2.2.2.2.2.2.2.2
  refine (quot_any13 (n_bd13 hs) (n_bd13 ha) h0 _).mono ?_
  rintro e u3 ⟨rfl, rfl⟩
  refine hK.out _ _ ?_ (fun hH3 => ?_)
  · exact hH2
  clear hK K
  try simp only [apt12]
  refine rdJ 14 oPM1314 fun K hK => ?_
  go_simp
  go_at_call 177
  have BB4 : Hid (Below w.heap.size w _) := hH3.2.2.2.2.2.2.2
  refine (small_ok13 hq _).mono ?_
  rintro e u4 ⟨rfl, rfl⟩
  refine hK.out _ _ ?_ (fun hH4 => ?_)
  · exact hH3
  clear hK K
  try simp only [apt12]
  refine tkJ 15 oPM1315 ?_
  refine wpAnyH_done (by kernel_rfl) ?_ _
  go_wp2_with fail
  go_ret
  exact pr_keep13 HI.out (hH4.2.2.2.2.2.2.2) (by rw [HRR.out, if_neg (by rw [hs, ha]; simp), if_neg h0, in_ok13 hq])
set_option maxHeartbeats 1000000 in
theorem ofrest_any13 (b base : Nat) (h : Hp) (A : Option Addr) (c : Nat) (s : Int) (args : List Int) (SA : Option Addr) (da : Nat) (w : World) (I : In13 w b base h A c s args SA da) (hn : 0 < args.length) (kb : Nat) (hk : w.cell? ⟨kb, 0, none⟩ = some (.func (.func 139) #[] #[])) (_hkb : kb ≠ b) :
    Calls Tryz.prog 176 #[.pointer (some ⟨b, 0, none⟩), .pointer (some ⟨kb, 0, none⟩)] w (Po13 w b h A c s args.length SA da (if nB s = false ∨ nB (args.getD 0 0) = false then fa13 h else if nV (args.getD 0 0) = 0 then fa13 h else in13 h (nV s - nV (args.getD 0 0) * (nV s).fdiv (nV (args.getD 0 0))))) := by
  obtain ⟨a0, ha0⟩ : ∃ a, a = args.getD 0 0 := ⟨_, rfl⟩
  rw [← ha0]
  have HI := hid I
  have HLA := hid (fun k => has_arg13 I.hall (k := k))
  obtain ⟨p, o, hSA, q0, hpb⟩ := I.arg (k := 0) (by omega)
  subst hSA
  rw [← ha0] at q0
  simp only [Nat.add_zero] at q0
  have hn0 : 0 < args.length := by omega
  have hn0I : (0 : Int) < (args.length : Int) := by omega
  have HPB := hid hpb
  obtain ⟨x0, x1, x2, x3, x4⟩ := I.box.c5
  have HA0 := hid ha0
  clear I hpb ha0
  have k0 := hk
  clear hk _hkb
  obtain ⟨rr, hrr⟩ : ∃ r : Rs, r = (if nB s = false ∨ nB a0 = false then fa13 h else if nV a0 = 0 then fa13 h else in13 h (nV s - nV a0 * (nV s).fdiv (nV a0))) := ⟨_, rfl⟩
  rw [← hrr]
  have HRR := hid hrr
  clear hrr
  cases hs : nB s
  · go_enter Tryz.func176, Tryz.ntmps176
    go_upto_region 1 with fail
    refine wp_region_held_drew (S := (fun w' => w'.cell? ⟨b, 0, none⟩ = some (.slice A h.objs.length c) ∧ w'.cell? ⟨b, 1, none⟩ = some (.int .i64 h.cap) ∧ w'.cell? ⟨b, 2, none⟩ = some (.int .i64 h.last) ∧ w'.cell? ⟨b, 3, none⟩ = some (.int .i64 s) ∧ w'.cell? ⟨b, 4, none⟩ = some (.slice (some ⟨p, o, none⟩) args.length da) ∧ w'.cell? ⟨p, o, none⟩ = some (.int .i64 a0) ∧ w'.cell? ⟨kb, 0, none⟩ = some (.func (.func 139) #[] #[]) ∧ Below w.heap.size w w')) (by kernel_rfl) ?_ (fun hH0 => ?_)
    · exact ⟨dcJ x0, dcJ x1, dcJ x2, dcJ x3, dcJ x4, dcJ q0, dcJ k0, (Below.refl _ _).drew⟩
    refine tkJ 0 oPM130 ?_
    refine tkJ 1 oPM131 ?_
    refine tkJ 2 oPM132 ?_
    refine tkJ 3 oPM133 ?_
    refine tkJ 4 oPM134 ?_
    refine tkJ 6 oPM135 ?_
    refine tkJ 7 oPM136 ?_
    refine tkJ 8 oPM137 ?_
    refine tkJ 9 oPM138 ?_
    refine tkJ 10 oPM139 ?_
    refine tkJ 11 oPM1310 ?_
    refine rdJ 5 oPM1311 fun K hK => ?_
    go_simp
    go_at_call 178
    have BB1 : Hid (Below w.heap.size w _) := (Below.refl _ _).drew
    refine (num_no13 hs _).mono ?_
    rintro e u9 ⟨rfl, rfl⟩
    exact ⟨rfl, pr_stop13 BB1.out (by rw [HRR.out, if_pos (.inl hs)]; rfl) (by decide)⟩
  cases ha : nB a0
  · go_enter Tryz.func176, Tryz.ntmps176
    go_upto_region 1 with fail
    refine wp_region_held_drew (S := (fun w' => w'.cell? ⟨b, 0, none⟩ = some (.slice A h.objs.length c) ∧ w'.cell? ⟨b, 1, none⟩ = some (.int .i64 h.cap) ∧ w'.cell? ⟨b, 2, none⟩ = some (.int .i64 h.last) ∧ w'.cell? ⟨b, 3, none⟩ = some (.int .i64 s) ∧ w'.cell? ⟨b, 4, none⟩ = some (.slice (some ⟨p, o, none⟩) args.length da) ∧ w'.cell? ⟨p, o, none⟩ = some (.int .i64 a0) ∧ w'.cell? ⟨kb, 0, none⟩ = some (.func (.func 139) #[] #[]) ∧ Below w.heap.size w w')) (by kernel_rfl) ?_ (fun hH0 => ?_)
    · exact ⟨dcJ x0, dcJ x1, dcJ x2, dcJ x3, dcJ x4, dcJ q0, dcJ k0, (Below.refl _ _).drew⟩
    refine tkJ 0 oPM130 ?_
    refine tkJ 1 oPM131 ?_
    refine tkJ 2 oPM132 ?_
    refine tkJ 3 oPM133 ?_
    refine tkJ 4 oPM134 ?_
    refine tkJ 6 oPM135 ?_
    refine tkJ 7 oPM136 ?_
    refine tkJ 8 oPM137 ?_
    refine tkJ 9 oPM138 ?_
    refine tkJ 10 oPM139 ?_
    refine tkJ 11 oPM1310 ?_
    refine rdJ 5 oPM1311 fun K hK => ?_
    go_simp
    go_at_call 178
    have BB1 : Hid (Below w.heap.size w _) := (Below.refl _ _).drew
    refine (num_ok13 hs _).mono ?_
    rintro e u1 ⟨rfl, rfl⟩
    refine hK.out _ _ ?_ (fun hH1 => ?_)
    · exact hH0
    clear hK K
    try simp only [apt12]
    refine rdJ 12 oPM1312 fun K hK => ?_
    go_simp
    go_at_call 178
    have BB2 : Hid (Below w.heap.size w _) := hH1.2.2.2.2.2.2.2
    refine (num_no13 ha _).mono ?_
    rintro e u9 ⟨rfl, rfl⟩
    exact ⟨rfl, pr_stop13 BB2.out (by rw [HRR.out, if_pos (.inr ha)]; rfl) (by decide)⟩
  by_cases h0 : nV a0 = 0
  · go_enter Tryz.func176, Tryz.ntmps176
    go_upto_region 1 with fail
    refine wp_region_held_drew (S := (fun w' => w'.cell? ⟨b, 0, none⟩ = some (.slice A h.objs.length c) ∧ w'.cell? ⟨b, 1, none⟩ = some (.int .i64 h.cap) ∧ w'.cell? ⟨b, 2, none⟩ = some (.int .i64 h.last) ∧ w'.cell? ⟨b, 3, none⟩ = some (.int .i64 s) ∧ w'.cell? ⟨b, 4, none⟩ = some (.slice (some ⟨p, o, none⟩) args.length da) ∧ w'.cell? ⟨p, o, none⟩ = some (.int .i64 a0) ∧ w'.cell? ⟨kb, 0, none⟩ = some (.func (.func 139) #[] #[]) ∧ Below w.heap.size w w')) (by kernel_rfl) ?_ (fun hH0 => ?_)
    · exact ⟨dcJ x0, dcJ x1, dcJ x2, dcJ x3, dcJ x4, dcJ q0, dcJ k0, (Below.refl _ _).drew⟩
    refine tkJ 0 oPM130 ?_
    refine tkJ 1 oPM131 ?_
    refine tkJ 2 oPM132 ?_
    refine tkJ 3 oPM133 ?_
    refine tkJ 4 oPM134 ?_
    refine tkJ 6 oPM135 ?_
    refine tkJ 7 oPM136 ?_
    refine tkJ 8 oPM137 ?_
    refine tkJ 9 oPM138 ?_
    refine tkJ 10 oPM139 ?_
    refine tkJ 11 oPM1310 ?_
    refine rdJ 5 oPM1311 fun K hK => ?_
    go_simp
    go_at_call 178
    have BB1 : Hid (Below w.heap.size w _) := (Below.refl _ _).drew
    refine (num_ok13 hs _).mono ?_
    rintro e u1 ⟨rfl, rfl⟩
    refine hK.out _ _ ?_ (fun hH1 => ?_)
    · exact hH0
    clear hK K
    try simp only [apt12]
    refine rdJ 12 oPM1312 fun K hK => ?_
    go_simp
    go_at_call 178
    have BB2 : Hid (Below w.heap.size w _) := hH1.2.2.2.2.2.2.2
    refine (num_ok13 ha _).mono ?_
    rintro e u2 ⟨rfl, rfl⟩
    refine hK.out _ _ ?_ (fun hH2 => ?_)
    · exact hH1
    clear hK K
    try simp only [apt12]
    refine rdJ 13 oPM1313 fun K hK => ?_
    go_simp
    go_at_call 139
    have BB3 : Hid (Below w.heap.size w _) := hH2.2.2.2.2.2.2.2
    refine (rest_no13 _ _).mono ?_
    rintro e u9 ⟨rfl, rfl⟩
    exact ⟨rfl, pr_stop13 BB3.out (by rw [HRR.out, if_neg (by rw [hs, ha]; simp), if_pos h0]; rfl) (by decide)⟩
  cases hq : smB (nV s - nV a0 * (nV s).fdiv (nV a0))
  · go_enter Tryz.func176, Tryz.ntmps176
    go_upto_region 1 with fail
    refine wp_region_held_drew (S := (fun w' => w'.cell? ⟨b, 0, none⟩ = some (.slice A h.objs.length c) ∧ w'.cell? ⟨b, 1, none⟩ = some (.int .i64 h.cap) ∧ w'.cell? ⟨b, 2, none⟩ = some (.int .i64 h.last) ∧ w'.cell? ⟨b, 3, none⟩ = some (.int .i64 s) ∧ w'.cell? ⟨b, 4, none⟩ = some (.slice (some ⟨p, o, none⟩) args.length da) ∧ w'.cell? ⟨p, o, none⟩ = some (.int .i64 a0) ∧ w'.cell? ⟨kb, 0, none⟩ = some (.func (.func 139) #[] #[]) ∧ Below w.heap.size w w')) (by kernel_rfl) ?_ (fun hH0 => ?_)
    · exact ⟨dcJ x0, dcJ x1, dcJ x2, dcJ x3, dcJ x4, dcJ q0, dcJ k0, (Below.refl _ _).drew⟩
    refine tkJ 0 oPM130 ?_
    refine tkJ 1 oPM131 ?_
    refine tkJ 2 oPM132 ?_
    refine tkJ 3 oPM133 ?_
    refine tkJ 4 oPM134 ?_
    refine tkJ 6 oPM135 ?_
    refine tkJ 7 oPM136 ?_
    refine tkJ 8 oPM137 ?_
    refine tkJ 9 oPM138 ?_
    refine tkJ 10 oPM139 ?_
    refine tkJ 11 oPM1310 ?_
    refine rdJ 5 oPM1311 fun K hK => ?_
    go_simp
    go_at_call 178
    have BB1 : Hid (Below w.heap.size w _) := (Below.refl _ _).drew
    refine (num_ok13 hs _).mono ?_
    rintro e u1 ⟨rfl, rfl⟩
    refine hK.out _ _ ?_ (fun hH1 => ?_)
    · exact hH0
    clear hK K
    try simp only [apt12]
    refine rdJ 12 oPM1312 fun K hK => ?_
    go_simp
    go_at_call 178
    have BB2 : Hid (Below w.heap.size w _) := hH1.2.2.2.2.2.2.2
    refine (num_ok13 ha _).mono ?_
    rintro e u2 ⟨rfl, rfl⟩
    refine hK.out _ _ ?_ (fun hH2 => ?_)
    · exact hH1
    clear hK K
    try simp only [apt12]
    refine rdJ 13 oPM1313 fun K hK => ?_
    go_simp
    go_at_call 139
    have BB3 : Hid (Below w.heap.size w _) := hH2.2.2.2.2.2.2.2
    refine (rest_any13 (n_bd13 hs) (n_bd13 ha) h0 _).mono ?_
    rintro e u3 ⟨rfl, rfl⟩
    refine hK.out _ _ ?_ (fun hH3 => ?_)
    · exact hH2
    clear hK K
    try simp only [apt12]
    refine rdJ 14 oPM1314 fun K hK => ?_
    go_simp
    go_at_call 177
    have BB4 : Hid (Below w.heap.size w _) := hH3.2.2.2.2.2.2.2
    refine (small_no13 hq _).mono ?_
    rintro e u9 ⟨rfl, rfl⟩
    exact ⟨rfl, pr_stop13 BB4.out (by rw [HRR.out, if_neg (by rw [hs, ha]; simp), if_neg h0, in_no13 hq]) (by decide)⟩
  go_enter Tryz.func176, Tryz.ntmps176
  go_upto_region 1 with fail
  refine wp_region_held_drew (S := (fun w' => w'.cell? ⟨b, 0, none⟩ = some (.slice A h.objs.length c) ∧ w'.cell? ⟨b, 1, none⟩ = some (.int .i64 h.cap) ∧ w'.cell? ⟨b, 2, none⟩ = some (.int .i64 h.last) ∧ w'.cell? ⟨b, 3, none⟩ = some (.int .i64 s) ∧ w'.cell? ⟨b, 4, none⟩ = some (.slice (some ⟨p, o, none⟩) args.length da) ∧ w'.cell? ⟨p, o, none⟩ = some (.int .i64 a0) ∧ w'.cell? ⟨kb, 0, none⟩ = some (.func (.func 139) #[] #[]) ∧ Below w.heap.size w w')) (by kernel_rfl) ?_ (fun hH0 => ?_)
  · exact ⟨dcJ x0, dcJ x1, dcJ x2, dcJ x3, dcJ x4, dcJ q0, dcJ k0, (Below.refl _ _).drew⟩
  refine tkJ 0 oPM130 ?_
  refine tkJ 1 oPM131 ?_
  refine tkJ 2 oPM132 ?_
  refine tkJ 3 oPM133 ?_
  refine tkJ 4 oPM134 ?_
  refine tkJ 6 oPM135 ?_
  refine tkJ 7 oPM136 ?_
  refine tkJ 8 oPM137 ?_
  refine tkJ 9 oPM138 ?_
  refine tkJ 10 oPM139 ?_
  refine tkJ 11 oPM1310 ?_
  refine rdJ 5 oPM1311 fun K hK => ?_
  go_simp
  go_at_call 178
  have BB1 : Hid (Below w.heap.size w _) := (Below.refl _ _).drew
  refine (num_ok13 hs _).mono ?_
  rintro e u1 ⟨rfl, rfl⟩
  refine hK.out _ _ ?_ (fun hH1 => ?_)
  · exact hH0
  clear hK K
  try simp only [apt12]
  refine rdJ 12 oPM1312 fun K hK => ?_
  go_simp
  go_at_call 178
  have BB2 : Hid (Below w.heap.size w _) := hH1.2.2.2.2.2.2.2
  refine (num_ok13 ha _).mono ?_
  rintro e u2 ⟨rfl, rfl⟩
  refine hK.out _ _ ?_ (fun hH2 => ?_)
  · exact hH1
  clear hK K
  try simp only [apt12]
  refine rdJ 13 oPM1313 fun K hK => ?_
  go_simp
  go_at_call 139
  have BB3 : Hid (Below w.heap.size w _) := hH2.2.2.2.2.2.2.2
  refine (rest_any13 (n_bd13 hs) (n_bd13 ha) h0 _).mono ?_
  rintro e u3 ⟨rfl, rfl⟩
  refine hK.out _ _ ?_ (fun hH3 => ?_)
  · exact hH2
  clear hK K
  try simp only [apt12]
  refine rdJ 14 oPM1314 fun K hK => ?_
  go_simp
  go_at_call 177
  have BB4 : Hid (Below w.heap.size w _) := hH3.2.2.2.2.2.2.2
  refine (small_ok13 hq _).mono ?_
  rintro e u4 ⟨rfl, rfl⟩
  refine hK.out _ _ ?_ (fun hH4 => ?_)
  · exact hH3
  clear hK K
  try simp only [apt12]
  refine tkJ 15 oPM1315 ?_
  refine wpAnyH_done (by kernel_rfl) ?_ _
  go_wp2_with fail
  go_ret
  exact pr_keep13 HI.out (hH4.2.2.2.2.2.2.2) (by rw [HRR.out, if_neg (by rw [hs, ha]; simp), if_neg h0, in_ok13 hq])
end Go.Proofs.YtnilempeldlieaaGreat
