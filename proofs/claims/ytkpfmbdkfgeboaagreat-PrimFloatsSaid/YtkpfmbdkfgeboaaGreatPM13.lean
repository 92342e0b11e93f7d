/- Primitives 1 to 5: whole numbers. -/
import Derived.Test.YtkpfmbdkfgeboaaGreatPL13
namespace Go.Proofs.YtkpfmbdkfgeboaaGreat
open Go.RowKit Flt
set_option maxRecDepth 100000
theorem tdiv_bd13 {m n : Int} (hm : -1073741824 ≤ m ∧ m ≤ 1073741823) : -1073741824 ≤ m.tdiv n ∧ m.tdiv n ≤ 1073741824 := by
  have h : (m.tdiv n).natAbs ≤ 1073741824 := by
    rw [Int.natAbs_tdiv]
    exact Nat.le_trans (Nat.div_le_self _ _) (by omega)
  omega
theorem fdiv_bd13 {m n : Int} (hm : -1073741824 ≤ m ∧ m ≤ 1073741823) (h0 : n ≠ 0) : -1073741825 ≤ m.fdiv n ∧ m.fdiv n ≤ 1073741824 := by
  have h := tdiv_bd13 (n := n) hm
  rw [fdiv_q13 h0]
  split <;> omega
set_option maxHeartbeats 1000000 in
theorem quot_any13 {m n : Int} (hm : -1073741824 ≤ m ∧ m ≤ 1073741823) (hn : -1073741824 ≤ n ∧ n ≤ 1073741823) (h0 : n ≠ 0) (w : World) : Calls Tryz.prog 98 #[.int .i64 m, .int .i64 n] w fun e w' => e = .returned (.int .i64 (m.fdiv n)) ∧ w = w' := by
  have hb := tdiv_bd13 (n := n) hm
  have hw : IntKind.i64.wrap (m.tdiv n) = m.tdiv n := IntWalk.i64_in _ (by omega)
  have hw2 : IntKind.i64.wrap (m.tdiv n - 1) = m.tdiv n - 1 := IntWalk.i64_in _ (by omega)
  have hbt : -1073741824 ≤ m.tmod n ∧ m.tmod n ≤ 1073741824 := by
    have h : (m.tmod n).natAbs ≤ 1073741824 := by
      rw [Int.natAbs_tmod]
      exact Nat.le_trans (Nat.mod_le _ _) (by omega)
    omega
  have hw3 : IntKind.i64.wrap (m.tmod n) = m.tmod n := IntWalk.i64_in _ (by omega)
  have hz : (n == 0) = false := by simpa using h0
  have HF := hid (fdiv_q13 (s := m) h0)
  obtain ⟨r, hr⟩ : ∃ r, r = m.fdiv n := ⟨_, rfl⟩
  rw [← hr] at HF ⊢
  clear hr hb hbt
  by_cases ht : m.tmod n = 0
  · have HR : Hid (r = m.tdiv n) := by show _ = _; rw [HF.out, if_neg (fun h => h.1 ht)]
    have ht2 : (m.tmod n != 0) = false := by simp [ht]
    have ht3 : ¬ m.tmod n ≠ 0 := fun h => h ht
    go_enter Tryz.func98, Tryz.ntmps98
    go_wp2
    go_ret
    exact ⟨by rw [HR.out]; rfl, rfl⟩
  · have ht2 : (m.tmod n != 0) = true := by simpa using ht
    by_cases hs : m < 0 <;> by_cases ha : n < 0
    · have HR : Hid (r = m.tdiv n) := by show _ = _; rw [HF.out, if_neg (by simp [hs, ha])]
      have d1 : decide (m < 0) = true := decide_eq_true hs
      have d2 : decide (n < 0) = true := decide_eq_true ha
      go_enter Tryz.func98, Tryz.ntmps98
      go_wp2
      go_ret
      exact ⟨by rw [HR.out]; rfl, rfl⟩
    · have HR : Hid (r = m.tdiv n - 1) := by show _ = _; rw [HF.out, if_pos ⟨ht, by simp [hs, ha]⟩]
      have d1 : decide (m < 0) = true := decide_eq_true hs
      have d2 : decide (n < 0) = false := decide_eq_false ha
      go_enter Tryz.func98, Tryz.ntmps98
      go_wp2
      go_ret
      exact ⟨by rw [HR.out]; rfl, rfl⟩
    · have HR : Hid (r = m.tdiv n - 1) := by show _ = _; rw [HF.out, if_pos ⟨ht, by simp [hs, ha]⟩]
      have d1 : decide (m < 0) = false := decide_eq_false hs
      have hme : m.tmod n = m % n := Int.tmod_eq_emod_of_nonneg (by omega)
      have ht5 : (m % n != 0) = true := by rw [← hme]; exact ht2
      have ht6 : ¬ m % n = 0 := by rw [← hme]; exact ht
      clear hme
      have d2 : decide (n < 0) = true := decide_eq_true ha
      go_enter Tryz.func98, Tryz.ntmps98
      go_wp2
      go_ret
      exact ⟨by rw [HR.out]; rfl, rfl⟩
    · have HR : Hid (r = m.tdiv n) := by show _ = _; rw [HF.out, if_neg (by simp [hs, ha])]
      have d1 : decide (m < 0) = false := decide_eq_false hs
      have hme : m.tmod n = m % n := Int.tmod_eq_emod_of_nonneg (by omega)
      have ht5 : (m % n != 0) = true := by rw [← hme]; exact ht2
      have ht6 : ¬ m % n = 0 := by rw [← hme]; exact ht
      clear hme
      have d2 : decide (n < 0) = false := decide_eq_false ha
      go_enter Tryz.func98, Tryz.ntmps98
      go_wp2
      go_ret
      exact ⟨by rw [HR.out]; rfl, rfl⟩
theorem rest_no13 (s : Int) (w : World) : Calls Tryz.prog 99 #[.int .i64 s, .int .i64 0] w fun e w' => e = .panicked (stop13 130) ∧ w = w' := by
  go_enter Tryz.func99, Tryz.ntmps99
  go_wp2_with (go_at_call 98; refine (quot_no13 _ _).mono ?_; rintro e w9 ⟨rfl, rfl⟩)
  exact ⟨rfl, rfl, rfl⟩
theorem rest_bd13 {m n : Int} (hm : -1073741824 ≤ m ∧ m ≤ 1073741823) (hn : -1073741824 ≤ n ∧ n ≤ 1073741823) (h0 : n ≠ 0) : -4611686018427387904 ≤ n * m.fdiv n ∧ n * m.fdiv n ≤ 4611686018427387904 := by
  have h1 := fdiv_bd13 hm h0
  have h : (n * m.fdiv n).natAbs ≤ 1073741824 * 1073741825 := by
    rw [Int.natAbs_mul]
    exact Nat.mul_le_mul (by omega) (by omega)
  omega
theorem rest_any13 {m n : Int} (hm : -1073741824 ≤ m ∧ m ≤ 1073741823) (hn : -1073741824 ≤ n ∧ n ≤ 1073741823) (h0 : n ≠ 0) (w : World) : Calls Tryz.prog 99 #[.int .i64 m, .int .i64 n] w fun e w' => e = .returned (.int .i64 (m - n * m.fdiv n)) ∧ w = w' := by
  have HQ := hid (quot_any13 hm hn h0)
  have hb := rest_bd13 hm hn h0
  obtain ⟨q, hq⟩ : ∃ q, q = m.fdiv n := ⟨_, rfl⟩
  rw [← hq] at HQ hb ⊢
  have hw : IntKind.i64.wrap (n * q) = n * q := IntWalk.i64_in _ (by omega)
  have hw2 : IntKind.i64.wrap (m - n * q) = m - n * q := IntWalk.i64_in _ (by omega)
  clear hb hq hm hn
  go_enter Tryz.func99, Tryz.ntmps99
  go_wp2_with (go_at_call 98; refine (HQ.out _).mono ?_; rintro e w9 ⟨rfl, rfl⟩)
  go_ret
  exact ⟨rfl, rfl⟩
set_option maxHeartbeats 1000000 in
theorem ofadd_any13 (b base : Nat) (h : Hp) (A : Option Addr) (c : Nat) (s : Int) (args : List Int) (SA : Option Addr) (da : Nat) (w : World) (I : In13 w b base h A c s args SA da) (hn : 0 < args.length) (kb : Nat) (hk : w.cell? ⟨kb, 0, none⟩ = some (.func (.func 95) #[] #[])) (hkb : kb ≠ b) :
    Calls Tryz.prog 125 #[.pointer (some ⟨b, 0, none⟩), .pointer (some ⟨kb, 0, none⟩)] w (Po13 w b h A c s args.length SA da (if nB s = false ∨ nB (args.getD 0 0) = false then fa13 h else in13 h (nV s + nV (args.getD 0 0)))) := by
  obtain ⟨a0, ha0⟩ : ∃ a, a = args.getD 0 0 := ⟨_, rfl⟩
  rw [← ha0]
  have HI := hid I
  have HLA := hid (fun k => has_arg13 I.hall (k := k))
  obtain ⟨p, o, hSA, q0, hpb⟩ := I.arg (k := 0) (by omega)
  subst hSA
  rw [← ha0] at q0
  simp only [Nat.add_zero] at q0
  have hn0 : 0 < args.length := by omega
  have hn0I : (0 : Int) < (args.length : Int) := by omega
  have HPB := hid hpb
  obtain ⟨x0, x1, x2, x3, x4⟩ := I.box.c5
  have HA0 := hid ha0
  clear I hpb ha0
  have k0 := hk
  clear hk hkb
  obtain ⟨rr, hrr⟩ : ∃ r : Rs, r = (if nB s = false ∨ nB a0 = false then fa13 h else in13 h (nV s + nV a0)) := ⟨_, rfl⟩
  rw [← hrr]
  have HRR := hid hrr
  clear hrr
  cases hs : nB s
  · go_enter Tryz.func125, Tryz.ntmps125
    go_upto_region 1 with fail
    refine wp_region_held_drew (S := (fun w' => w'.cell? ⟨b, 0, none⟩ = some (.slice A h.objs.length c) ∧ w'.cell? ⟨b, 1, none⟩ = some (.int .i64 h.cap) ∧ w'.cell? ⟨b, 2, none⟩ = some (.int .i64 h.last) ∧ w'.cell? ⟨b, 3, none⟩ = some (.int .i64 s) ∧ w'.cell? ⟨b, 4, none⟩ = some (.slice (some ⟨p, o, none⟩) args.length da) ∧ w'.cell? ⟨p, o, none⟩ = some (.int .i64 a0) ∧ w'.cell? ⟨kb, 0, none⟩ = some (.func (.func 95) #[] #[]) ∧ Below w.heap.size w w')) (by kernel_rfl) ?_ (fun hH0 => ?_)
    · exact ⟨cell_later (Below.refl w.heap.size w).drew x0, cell_later (Below.refl w.heap.size w).drew x1, cell_later (Below.refl w.heap.size w).drew x2, cell_later (Below.refl w.heap.size w).drew x3, cell_later (Below.refl w.heap.size w).drew x4, cell_later (Below.refl w.heap.size w).drew q0, cell_later (Below.refl w.heap.size w).drew k0, (Below.refl _ _).drew⟩
    refine tkI 0 ⟨some 4, .load 63 (.tmp 1), 63, "prim.go:128", #[], none⟩ ?v485 rfl (by kernel_rfl) (by rfl) ?y485 ?_
    case y485 => intro w hSw; (try dsimp only at hSw); go_simp; all_goals with_reducible rfl
    try simp only [apt12]
    refine tkI 1 ⟨some 5, .move (.tmp 0), 70, "prim.go:128", #[], none⟩ ?v486 rfl (by kernel_rfl) (by rfl) ?y486 ?_
    case y486 => intro w hSw; (try dsimp only at hSw); go_simp; all_goals with_reducible rfl
    try simp only [apt12]
    refine tkI 2 ⟨some 6, .nilCheck (.tmp 5), 0, "prim.go:128", #[⟨1, .data⟩], none⟩ ?v487 rfl (by kernel_rfl) (by rfl) ?y487 ?_
    case y487 => intro w hSw; (try dsimp only at hSw); go_simp; all_goals with_reducible rfl
    try simp only [apt12]
    refine tkI 3 ⟨some 7, .fieldAddr 49 (.tmp 6) 1, 0, "prim.go:128", #[⟨2, .data⟩], none⟩ ?v488 rfl (by kernel_rfl) (by rfl) ?y488 ?_
    case y488 => intro w hSw; (try dsimp only at hSw); go_simp; all_goals with_reducible rfl
    try simp only [apt12]
    refine tkI 4 ⟨some 8, .load 3 (.tmp 7), 3, "prim.go:128", #[⟨3, .data⟩], none⟩ ?v489 rfl (by kernel_rfl) (by rfl) ?y489 ?_
    case y489 => intro w hSw; (try dsimp only at hSw); go_simp; all_goals with_reducible rfl
    try simp only [apt12]
    refine tkI 6 ⟨some 10, .move (.tmp 0), 70, "prim.go:128", #[], none⟩ ?v490 rfl (by kernel_rfl) (by rfl) ?y490 ?_
    case y490 => intro w hSw; (try dsimp only at hSw); go_simp; all_goals with_reducible rfl
    try simp only [apt12]
    refine tkI 7 ⟨some 11, .nilCheck (.tmp 10), 0, "prim.go:128", #[⟨6, .data⟩], none⟩ ?v491 rfl (by kernel_rfl) (by rfl) ?y491 ?_
    case y491 => intro w hSw; (try dsimp only at hSw); go_simp; all_goals with_reducible rfl
    try simp only [apt12]
    refine tkI 8 ⟨some 12, .fieldAddr 49 (.tmp 11) 2, 0, "prim.go:128", #[⟨7, .data⟩], none⟩ ?v492 rfl (by kernel_rfl) (by rfl) ?y492 ?_
    case y492 => intro w hSw; (try dsimp only at hSw); go_simp; all_goals with_reducible rfl
    try simp only [apt12]
    refine tkI 9 ⟨some 13, .load 25 (.tmp 12), 25, "prim.go:128", #[⟨8, .data⟩], none⟩ ?v493 rfl (by kernel_rfl) (by rfl) ?y493 ?_
    case y493 => intro w hSw; (try dsimp only at hSw); go_simp; all_goals with_reducible rfl
    try simp only [apt12]
    refine tkI 10 ⟨some 14, .indexAddr 25 (.tmp 13) (.const (Go.Value.int .i64 0)), 0, "prim.go:128", #[⟨9, .data⟩], none⟩ ?v494 rfl (by kernel_rfl) (by rfl) ?y494 ?_
    case y494 => intro w hSw; (try dsimp only at hSw); go_simp; all_goals with_reducible rfl
    try simp only [apt12]
    refine tkI 11 ⟨some 15, .load 3 (.tmp 14), 3, "prim.go:128", #[⟨10, .data⟩], none⟩ ?v495 rfl (by kernel_rfl) (by rfl) ?y495 ?_
    case y495 => intro w hSw; (try dsimp only at hSw); go_simp; all_goals with_reducible rfl
    try simp only [apt12]
    refine wpAnyH_ready (rs := [5]) (by kernel_rfl) (by simp) ?_
    refine AllReadyH.cons (i := 5) (o := ⟨some 9, .call { callee := .value (.func 127), args := #[.tmp 8], argTypes := #[3] }, 3, "prim.go:128", #[⟨4, .data⟩], none⟩) rfl (fun K hK => ?_) AllReadyH.nil
    go_simp
    go_at_call 127
    have BB1 : Hid (Below w.heap.size w _) := (Below.refl _ _).drew
    refine (num_no13 hs _).mono ?_
    rintro e u9 ⟨rfl, rfl⟩
    exact ⟨rfl, pr_stop13 BB1.out (by rw [HRR.out, if_pos (.inl hs)]; rfl) (by decide)⟩
  cases ha : nB a0
  · go_enter Tryz.func125, Tryz.ntmps125
    go_upto_region 1 with fail
    refine wp_region_held_drew (S := (fun w' => w'.cell? ⟨b, 0, none⟩ = some (.slice A h.objs.length c) ∧ w'.cell? ⟨b, 1, none⟩ = some (.int .i64 h.cap) ∧ w'.cell? ⟨b, 2, none⟩ = some (.int .i64 h.last) ∧ w'.cell? ⟨b, 3, none⟩ = some (.int .i64 s) ∧ w'.cell? ⟨b, 4, none⟩ = some (.slice (some ⟨p, o, none⟩) args.length da) ∧ w'.cell? ⟨p, o, none⟩ = some (.int .i64 a0) ∧ w'.cell? ⟨kb, 0, none⟩ = some (.func (.func 95) #[] #[]) ∧ Below w.heap.size w w')) (by kernel_rfl) ?_ (fun hH0 => ?_)
    · exact ⟨cell_later (Below.refl w.heap.size w).drew x0, cell_later (Below.refl w.heap.size w).drew x1, cell_later (Below.refl w.heap.size w).drew x2, cell_later (Below.refl w.heap.size w).drew x3, cell_later (Below.refl w.heap.size w).drew x4, cell_later (Below.refl w.heap.size w).drew q0, cell_later (Below.refl w.heap.size w).drew k0, (Below.refl _ _).drew⟩
    refine tkI 0 ⟨some 4, .load 63 (.tmp 1), 63, "prim.go:128", #[], none⟩ ?v496 rfl (by kernel_rfl) (by rfl) ?y496 ?_
    case y496 => intro w hSw; (try dsimp only at hSw); go_simp; all_goals with_reducible rfl
    try simp only [apt12]
    refine tkI 1 ⟨some 5, .move (.tmp 0), 70, "prim.go:128", #[], none⟩ ?v497 rfl (by kernel_rfl) (by rfl) ?y497 ?_
    case y497 => intro w hSw; (try dsimp only at hSw); go_simp; all_goals with_reducible rfl
    try simp only [apt12]
    refine tkI 2 ⟨some 6, .nilCheck (.tmp 5), 0, "prim.go:128", #[⟨1, .data⟩], none⟩ ?v498 rfl (by kernel_rfl) (by rfl) ?y498 ?_
    case y498 => intro w hSw; (try dsimp only at hSw); go_simp; all_goals with_reducible rfl
    try simp only [apt12]
    refine tkI 3 ⟨some 7, .fieldAddr 49 (.tmp 6) 1, 0, "prim.go:128", #[⟨2, .data⟩], none⟩ ?v499 rfl (by kernel_rfl) (by rfl) ?y499 ?_
    case y499 => intro w hSw; (try dsimp only at hSw); go_simp; all_goals with_reducible rfl
    try simp only [apt12]
    refine tkI 4 ⟨some 8, .load 3 (.tmp 7), 3, "prim.go:128", #[⟨3, .data⟩], none⟩ ?v500 rfl (by kernel_rfl) (by rfl) ?y500 ?_
    case y500 => intro w hSw; (try dsimp only at hSw); go_simp; all_goals with_reducible rfl
    try simp only [apt12]
    refine tkI 6 ⟨some 10, .move (.tmp 0), 70, "prim.go:128", #[], none⟩ ?v501 rfl (by kernel_rfl) (by rfl) ?y501 ?_
    case y501 => intro w hSw; (try dsimp only at hSw); go_simp; all_goals with_reducible rfl
    try simp only [apt12]
    refine tkI 7 ⟨some 11, .nilCheck (.tmp 10), 0, "prim.go:128", #[⟨6, .data⟩], none⟩ ?v502 rfl (by kernel_rfl) (by rfl) ?y502 ?_
    case y502 => intro w hSw; (try dsimp only at hSw); go_simp; all_goals with_reducible rfl
    try simp only [apt12]
    refine tkI 8 ⟨some 12, .fieldAddr 49 (.tmp 11) 2, 0, "prim.go:128", #[⟨7, .data⟩], none⟩ ?v503 rfl (by kernel_rfl) (by rfl) ?y503 ?_
    case y503 => intro w hSw; (try dsimp only at hSw); go_simp; all_goals with_reducible rfl
    try simp only [apt12]
    refine tkI 9 ⟨some 13, .load 25 (.tmp 12), 25, "prim.go:128", #[⟨8, .data⟩], none⟩ ?v504 rfl (by kernel_rfl) (by rfl) ?y504 ?_
    case y504 => intro w hSw; (try dsimp only at hSw); go_simp; all_goals with_reducible rfl
    try simp only [apt12]
    refine tkI 10 ⟨some 14, .indexAddr 25 (.tmp 13) (.const (Go.Value.int .i64 0)), 0, "prim.go:128", #[⟨9, .data⟩], none⟩ ?v505 rfl (by kernel_rfl) (by rfl) ?y505 ?_
    case y505 => intro w hSw; (try dsimp only at hSw); go_simp; all_goals with_reducible rfl
    try simp only [apt12]
    refine tkI 11 ⟨some 15, .load 3 (.tmp 14), 3, "prim.go:128", #[⟨10, .data⟩], none⟩ ?v506 rfl (by kernel_rfl) (by rfl) ?y506 ?_
    case y506 => intro w hSw; (try dsimp only at hSw); go_simp; all_goals with_reducible rfl
    try simp only [apt12]
    refine wpAnyH_ready (rs := [5]) (by kernel_rfl) (by simp) ?_
    refine AllReadyH.cons (i := 5) (o := ⟨some 9, .call { callee := .value (.func 127), args := #[.tmp 8], argTypes := #[3] }, 3, "prim.go:128", #[⟨4, .data⟩], none⟩) rfl (fun K hK => ?_) AllReadyH.nil
    go_simp
    go_at_call 127
    have BB1 : Hid (Below w.heap.size w _) := (Below.refl _ _).drew
    refine (num_ok13 hs _).mono ?_
    rintro e u1 ⟨rfl, rfl⟩
    refine hK.out _ _ ?_ (fun hH1 => ?_)
    · exact hH0
    clear hK K
    try simp only [apt12]
    refine wpAnyH_ready (rs := [12]) (by kernel_rfl) (by simp) ?_
    refine AllReadyH.cons (i := 12) (o := ⟨some 16, .call { callee := .value (.func 127), args := #[.tmp 15], argTypes := #[3] }, 3, "prim.go:128", #[⟨11, .data⟩, ⟨5, .chain⟩], none⟩) rfl (fun K hK => ?_) AllReadyH.nil
    go_simp
    go_at_call 127
    have BB2 : Hid (Below w.heap.size w _) := hH1.2.2.2.2.2.2.2
    refine (num_no13 ha _).mono ?_
    rintro e u9 ⟨rfl, rfl⟩
    exact ⟨rfl, pr_stop13 BB2.out (by rw [HRR.out, if_pos (.inr ha)]; rfl) (by decide)⟩
  cases hq : smB (nV s + nV a0)
  · go_enter Tryz.func125, Tryz.ntmps125
    go_upto_region 1 with fail
    refine wp_region_held_drew (S := (fun w' => w'.cell? ⟨b, 0, none⟩ = some (.slice A h.objs.length c) ∧ w'.cell? ⟨b, 1, none⟩ = some (.int .i64 h.cap) ∧ w'.cell? ⟨b, 2, none⟩ = some (.int .i64 h.last) ∧ w'.cell? ⟨b, 3, none⟩ = some (.int .i64 s) ∧ w'.cell? ⟨b, 4, none⟩ = some (.slice (some ⟨p, o, none⟩) args.length da) ∧ w'.cell? ⟨p, o, none⟩ = some (.int .i64 a0) ∧ w'.cell? ⟨kb, 0, none⟩ = some (.func (.func 95) #[] #[]) ∧ Below w.heap.size w w')) (by kernel_rfl) ?_ (fun hH0 => ?_)
    · exact ⟨cell_later (Below.refl w.heap.size w).drew x0, cell_later (Below.refl w.heap.size w).drew x1, cell_later (Below.refl w.heap.size w).drew x2, cell_later (Below.refl w.heap.size w).drew x3, cell_later (Below.refl w.heap.size w).drew x4, cell_later (Below.refl w.heap.size w).drew q0, cell_later (Below.refl w.heap.size w).drew k0, (Below.refl _ _).drew⟩
    refine tkI 0 ⟨some 4, .load 63 (.tmp 1), 63, "prim.go:128", #[], none⟩ ?v507 rfl (by kernel_rfl) (by rfl) ?y507 ?_
    case y507 => intro w hSw; (try dsimp only at hSw); go_simp; all_goals with_reducible rfl
    try simp only [apt12]
    refine tkI 1 ⟨some 5, .move (.tmp 0), 70, "prim.go:128", #[], none⟩ ?v508 rfl (by kernel_rfl) (by rfl) ?y508 ?_
    case y508 => intro w hSw; (try dsimp only at hSw); go_simp; all_goals with_reducible rfl
    try simp only [apt12]
    refine tkI 2 ⟨some 6, .nilCheck (.tmp 5), 0, "prim.go:128", #[⟨1, .data⟩], none⟩ ?v509 rfl (by kernel_rfl) (by rfl) ?y509 ?_
    case y509 => intro w hSw; (try dsimp only at hSw); go_simp; all_goals with_reducible rfl
    try simp only [apt12]
    refine tkI 3 ⟨some 7, .fieldAddr 49 (.tmp 6) 1, 0, "prim.go:128", #[⟨2, .data⟩], none⟩ ?v510 rfl (by kernel_rfl) (by rfl) ?y510 ?_
    case y510 => intro w hSw; (try dsimp only at hSw); go_simp; all_goals with_reducible rfl
    try simp only [apt12]
    refine tkI 4 ⟨some 8, .load 3 (.tmp 7), 3, "prim.go:128", #[⟨3, .data⟩], none⟩ ?v511 rfl (by kernel_rfl) (by rfl) ?y511 ?_
    case y511 => intro w hSw; (try dsimp only at hSw); go_simp; all_goals with_reducible rfl
    try simp only [apt12]
    refine tkI 6 ⟨some 10, .move (.tmp 0), 70, "prim.go:128", #[], none⟩ ?v512 rfl (by kernel_rfl) (by rfl) ?y512 ?_
    case y512 => intro w hSw; (try dsimp only at hSw); go_simp; all_goals with_reducible rfl
    try simp only [apt12]
    refine tkI 7 ⟨some 11, .nilCheck (.tmp 10), 0, "prim.go:128", #[⟨6, .data⟩], none⟩ ?v513 rfl (by kernel_rfl) (by rfl) ?y513 ?_
    case y513 => intro w hSw; (try dsimp only at hSw); go_simp; all_goals with_reducible rfl
    try simp only [apt12]
    refine tkI 8 ⟨some 12, .fieldAddr 49 (.tmp 11) 2, 0, "prim.go:128", #[⟨7, .data⟩], none⟩ ?v514 rfl (by kernel_rfl) (by rfl) ?y514 ?_
    case y514 => intro w hSw; (try dsimp only at hSw); go_simp; all_goals with_reducible rfl
    try simp only [apt12]
    refine tkI 9 ⟨some 13, .load 25 (.tmp 12), 25, "prim.go:128", #[⟨8, .data⟩], none⟩ ?v515 rfl (by kernel_rfl) (by rfl) ?y515 ?_
    case y515 => intro w hSw; (try dsimp only at hSw); go_simp; all_goals with_reducible rfl
    try simp only [apt12]
    refine tkI 10 ⟨some 14, .indexAddr 25 (.tmp 13) (.const (Go.Value.int .i64 0)), 0, "prim.go:128", #[⟨9, .data⟩], none⟩ ?v516 rfl (by kernel_rfl) (by rfl) ?y516 ?_
    case y516 => intro w hSw; (try dsimp only at hSw); go_simp; all_goals with_reducible rfl
    try simp only [apt12]
    refine tkI 11 ⟨some 15, .load 3 (.tmp 14), 3, "prim.go:128", #[⟨10, .data⟩], none⟩ ?v517 rfl (by kernel_rfl) (by rfl) ?y517 ?_
    case y517 => intro w hSw; (try dsimp only at hSw); go_simp; all_goals with_reducible rfl
    try simp only [apt12]
    refine wpAnyH_ready (rs := [5]) (by kernel_rfl) (by simp) ?_
    refine AllReadyH.cons (i := 5) (o := ⟨some 9, .call { callee := .value (.func 127), args := #[.tmp 8], argTypes := #[3] }, 3, "prim.go:128", #[⟨4, .data⟩], none⟩) rfl (fun K hK => ?_) AllReadyH.nil
    go_simp
    go_at_call 127
    have BB1 : Hid (Below w.heap.size w _) := (Below.refl _ _).drew
    refine (num_ok13 hs _).mono ?_
    rintro e u1 ⟨rfl, rfl⟩
    refine hK.out _ _ ?_ (fun hH1 => ?_)
    · exact hH0
    clear hK K
    try simp only [apt12]
    refine wpAnyH_ready (rs := [12]) (by kernel_rfl) (by simp) ?_
    refine AllReadyH.cons (i := 12) (o := ⟨some 16, .call { callee := .value (.func 127), args := #[.tmp 15], argTypes := #[3] }, 3, "prim.go:128", #[⟨11, .data⟩, ⟨5, .chain⟩], none⟩) rfl (fun K hK => ?_) AllReadyH.nil
    go_simp
    go_at_call 127
    have BB2 : Hid (Below w.heap.size w _) := hH1.2.2.2.2.2.2.2
    refine (num_ok13 ha _).mono ?_
    rintro e u2 ⟨rfl, rfl⟩
    refine hK.out _ _ ?_ (fun hH2 => ?_)
    · exact hH1
    clear hK K
    try simp only [apt12]
    refine wpAnyH_ready (rs := [13]) (by kernel_rfl) (by simp) ?_
    refine AllReadyH.cons (i := 13) (o := ⟨some 17, .call { callee := .value (.tmp 4), args := #[.tmp 9, .tmp 16], argTypes := #[3, 3] }, 3, "prim.go:128", #[⟨0, .data⟩, ⟨5, .data⟩, ⟨12, .data⟩, ⟨12, .chain⟩], none⟩) rfl (fun K hK => ?_) AllReadyH.nil
    go_simp
    go_at_call 95
    have BB3 : Hid (Below w.heap.size w _) := hH2.2.2.2.2.2.2.2
    refine (add_any13 (n_bd13 hs) (n_bd13 ha) _).mono ?_
    rintro e u3 ⟨rfl, rfl⟩
    refine hK.out _ _ ?_ (fun hH3 => ?_)
    · exact hH2
    clear hK K
    try simp only [apt12]
    refine wpAnyH_ready (rs := [14]) (by kernel_rfl) (by simp) ?_
    refine AllReadyH.cons (i := 14) (o := ⟨some 18, .call { callee := .value (.func 126), args := #[.tmp 17], argTypes := #[3] }, 3, "prim.go:128", #[⟨13, .data⟩, ⟨13, .chain⟩], none⟩) rfl (fun K hK => ?_) AllReadyH.nil
    go_simp
    go_at_call 126
    have BB4 : Hid (Below w.heap.size w _) := hH3.2.2.2.2.2.2.2
    refine (small_no13 hq _).mono ?_
    rintro e u9 ⟨rfl, rfl⟩
    exact ⟨rfl, pr_stop13 BB4.out (by rw [HRR.out, if_neg (by rw [hs, ha]; simp), in_no13 hq]) (by decide)⟩
  go_enter Tryz.func125, Tryz.ntmps125
  go_upto_region 1 with fail
  refine wp_region_held_drew (S := (fun w' => w'.cell? ⟨b, 0, none⟩ = some (.slice A h.objs.length c) ∧ w'.cell? ⟨b, 1, none⟩ = some (.int .i64 h.cap) ∧ w'.cell? ⟨b, 2, none⟩ = some (.int .i64 h.last) ∧ w'.cell? ⟨b, 3, none⟩ = some (.int .i64 s) ∧ w'.cell? ⟨b, 4, none⟩ = some (.slice (some ⟨p, o, none⟩) args.length da) ∧ w'.cell? ⟨p, o, none⟩ = some (.int .i64 a0) ∧ w'.cell? ⟨kb, 0, none⟩ = some (.func (.func 95) #[] #[]) ∧ Below w.heap.size w w')) (by kernel_rfl) ?_ (fun hH0 => ?_)
  · exact ⟨cell_later (Below.refl w.heap.size w).drew x0, cell_later (Below.refl w.heap.size w).drew x1, cell_later (Below.refl w.heap.size w).drew x2, cell_later (Below.refl w.heap.size w).drew x3, cell_later (Below.refl w.heap.size w).drew x4, cell_later (Below.refl w.heap.size w).drew q0, cell_later (Below.refl w.heap.size w).drew k0, (Below.refl _ _).drew⟩
  refine tkI 0 ⟨some 4, .load 63 (.tmp 1), 63, "prim.go:128", #[], none⟩ ?v518 rfl (by kernel_rfl) (by rfl) ?y518 ?_
  case y518 => intro w hSw; (try dsimp only at hSw); go_simp; all_goals with_reducible rfl
  try simp only [apt12]
  refine tkI 1 ⟨some 5, .move (.tmp 0), 70, "prim.go:128", #[], none⟩ ?v519 rfl (by kernel_rfl) (by rfl) ?y519 ?_
  case y519 => intro w hSw; (try dsimp only at hSw); go_simp; all_goals with_reducible rfl
  try simp only [apt12]
  refine tkI 2 ⟨some 6, .nilCheck (.tmp 5), 0, "prim.go:128", #[⟨1, .data⟩], none⟩ ?v520 rfl (by kernel_rfl) (by rfl) ?y520 ?_
  case y520 => intro w hSw; (try dsimp only at hSw); go_simp; all_goals with_reducible rfl
  try simp only [apt12]
  refine tkI 3 ⟨some 7, .fieldAddr 49 (.tmp 6) 1, 0, "prim.go:128", #[⟨2, .data⟩], none⟩ ?v521 rfl (by kernel_rfl) (by rfl) ?y521 ?_
  case y521 => intro w hSw; (try dsimp only at hSw); go_simp; all_goals with_reducible rfl
  try simp only [apt12]
  refine tkI 4 ⟨some 8, .load 3 (.tmp 7), 3, "prim.go:128", #[⟨3, .data⟩], none⟩ ?v522 rfl (by kernel_rfl) (by rfl) ?y522 ?_
  case y522 => intro w hSw; (try dsimp only at hSw); go_simp; all_goals with_reducible rfl
  try simp only [apt12]
  refine tkI 6 ⟨some 10, .move (.tmp 0), 70, "prim.go:128", #[], none⟩ ?v523 rfl (by kernel_rfl) (by rfl) ?y523 ?_
  case y523 => intro w hSw; (try dsimp only at hSw); go_simp; all_goals with_reducible rfl
  try simp only [apt12]
  refine tkI 7 ⟨some 11, .nilCheck (.tmp 10), 0, "prim.go:128", #[⟨6, .data⟩], none⟩ ?v524 rfl (by kernel_rfl) (by rfl) ?y524 ?_
  case y524 => intro w hSw; (try dsimp only at hSw); go_simp; all_goals with_reducible rfl
  try simp only [apt12]
  refine tkI 8 ⟨some 12, .fieldAddr 49 (.tmp 11) 2, 0, "prim.go:128", #[⟨7, .data⟩], none⟩ ?v525 rfl (by kernel_rfl) (by rfl) ?y525 ?_
  case y525 => intro w hSw; (try dsimp only at hSw); go_simp; all_goals with_reducible rfl
  try simp only [apt12]
  refine tkI 9 ⟨some 13, .load 25 (.tmp 12), 25, "prim.go:128", #[⟨8, .data⟩], none⟩ ?v526 rfl (by kernel_rfl) (by rfl) ?y526 ?_
  case y526 => intro w hSw; (try dsimp only at hSw); go_simp; all_goals with_reducible rfl
  try simp only [apt12]
  refine tkI 10 ⟨some 14, .indexAddr 25 (.tmp 13) (.const (Go.Value.int .i64 0)), 0, "prim.go:128", #[⟨9, .data⟩], none⟩ ?v527 rfl (by kernel_rfl) (by rfl) ?y527 ?_
  case y527 => intro w hSw; (try dsimp only at hSw); go_simp; all_goals with_reducible rfl
  try simp only [apt12]
  refine tkI 11 ⟨some 15, .load 3 (.tmp 14), 3, "prim.go:128", #[⟨10, .data⟩], none⟩ ?v528 rfl (by kernel_rfl) (by rfl) ?y528 ?_
  case y528 => intro w hSw; (try dsimp only at hSw); go_simp; all_goals with_reducible rfl
  try simp only [apt12]
  refine wpAnyH_ready (rs := [5]) (by kernel_rfl) (by simp) ?_
  refine AllReadyH.cons (i := 5) (o := ⟨some 9, .call { callee := .value (.func 127), args := #[.tmp 8], argTypes := #[3] }, 3, "prim.go:128", #[⟨4, .data⟩], none⟩) rfl (fun K hK => ?_) AllReadyH.nil
  go_simp
  go_at_call 127
  have BB1 : Hid (Below w.heap.size w _) := (Below.refl _ _).drew
  refine (num_ok13 hs _).mono ?_
  rintro e u1 ⟨rfl, rfl⟩
  refine hK.out _ _ ?_ (fun hH1 => ?_)
  · exact hH0
  clear hK K
  try simp only [apt12]
  refine wpAnyH_ready (rs := [12]) (by kernel_rfl) (by simp) ?_
  refine AllReadyH.cons (i := 12) (o := ⟨some 16, .call { callee := .value (.func 127), args := #[.tmp 15], argTypes := #[3] }, 3, "prim.go:128", #[⟨11, .data⟩, ⟨5, .chain⟩], none⟩) rfl (fun K hK => ?_) AllReadyH.nil
  go_simp
  go_at_call 127
  have BB2 : Hid (Below w.heap.size w _) := hH1.2.2.2.2.2.2.2
  refine (num_ok13 ha _).mono ?_
  rintro e u2 ⟨rfl, rfl⟩
  refine hK.out _ _ ?_ (fun hH2 => ?_)
  · exact hH1
  clear hK K
  try simp only [apt12]
  refine wpAnyH_ready (rs := [13]) (by kernel_rfl) (by simp) ?_
  refine AllReadyH.cons (i := 13) (o := ⟨some 17, .call { callee := .value (.tmp 4), args := #[.tmp 9, .tmp 16], argTypes := #[3, 3] }, 3, "prim.go:128", #[⟨0, .data⟩, ⟨5, .data⟩, ⟨12, .data⟩, ⟨12, .chain⟩], none⟩) rfl (fun K hK => ?_) AllReadyH.nil
  go_simp
  go_at_call 95
  have BB3 : Hid (Below w.heap.size w _) := hH2.2.2.2.2.2.2.2
  refine (add_any13 (n_bd13 hs) (n_bd13 ha) _).mono ?_
  rintro e u3 ⟨rfl, rfl⟩
  refine hK.out _ _ ?_ (fun hH3 => ?_)
  · exact hH2
  clear hK K
  try simp only [apt12]
  refine wpAnyH_ready (rs := [14]) (by kernel_rfl) (by simp) ?_
  refine AllReadyH.cons (i := 14) (o := ⟨some 18, .call { callee := .value (.func 126), args := #[.tmp 17], argTypes := #[3] }, 3, "prim.go:128", #[⟨13, .data⟩, ⟨13, .chain⟩], none⟩) rfl (fun K hK => ?_) AllReadyH.nil
  go_simp
  go_at_call 126
  have BB4 : Hid (Below w.heap.size w _) := hH3.2.2.2.2.2.2.2
  refine (small_ok13 hq _).mono ?_
  rintro e u4 ⟨rfl, rfl⟩
  refine hK.out _ _ ?_ (fun hH4 => ?_)
  · exact hH3
  clear hK K
  try simp only [apt12]
  refine tkI 15 ⟨some 3, .assign (.tmp 18), 3, "prim.go:128", #[⟨14, .data⟩, ⟨14, .chain⟩, ⟨0, .phase⟩, ⟨1, .phase⟩, ⟨2, .phase⟩, ⟨3, .phase⟩, ⟨4, .phase⟩, ⟨5, .phase⟩, ⟨6, .phase⟩, ⟨7, .phase⟩, ⟨8, .phase⟩, ⟨9, .phase⟩, ⟨10, .phase⟩, ⟨11, .phase⟩, ⟨12, .phase⟩, ⟨13, .phase⟩, ⟨14, .phase⟩], none⟩ ?v529 rfl (by kernel_rfl) (by rfl) ?y529 ?_
  case y529 => intro w hSw; (try dsimp only at hSw); go_simp; all_goals with_reducible rfl
  try simp only [apt12]
  refine wpAnyH_done (by kernel_rfl) ?_ _
  go_wp2_with fail
  go_ret
  exact pr_keep13 HI.out (hH4.2.2.2.2.2.2.2) (by rw [HRR.out, if_neg (by rw [hs, ha]; simp), in_ok13 hq])
set_option maxHeartbeats 1000000 in
theorem ofsub_any13 (b base : Nat) (h : Hp) (A : Option Addr) (c : Nat) (s : Int) (args : List Int) (SA : Option Addr) (da : Nat) (w : World) (I : In13 w b base h A c s args SA da) (hn : 0 < args.length) (kb : Nat) (hk : w.cell? ⟨kb, 0, none⟩ = some (.func (.func 96) #[] #[])) (hkb : kb ≠ b) :
    Calls Tryz.prog 125 #[.pointer (some ⟨b, 0, none⟩), .pointer (some ⟨kb, 0, none⟩)] w (Po13 w b h A c s args.length SA da (if nB s = false ∨ nB (args.getD 0 0) = false then fa13 h else in13 h (nV s - nV (args.getD 0 0)))) := by
  obtain ⟨a0, ha0⟩ : ∃ a, a = args.getD 0 0 := ⟨_, rfl⟩
  rw [← ha0]
  have HI := hid I
  have HLA := hid (fun k => has_arg13 I.hall (k := k))
  obtain ⟨p, o, hSA, q0, hpb⟩ := I.arg (k := 0) (by omega)
  subst hSA
  rw [← ha0] at q0
  simp only [Nat.add_zero] at q0
  have hn0 : 0 < args.length := by omega
  have hn0I : (0 : Int) < (args.length : Int) := by omega
  have HPB := hid hpb
  obtain ⟨x0, x1, x2, x3, x4⟩ := I.box.c5
  have HA0 := hid ha0
  clear I hpb ha0
  have k0 := hk
  clear hk hkb
  obtain ⟨rr, hrr⟩ : ∃ r : Rs, r = (if nB s = false ∨ nB a0 = false then fa13 h else in13 h (nV s - nV a0)) := ⟨_, rfl⟩
  rw [← hrr]
  have HRR := hid hrr
  clear hrr
  cases hs : nB s
  · go_enter Tryz.func125, Tryz.ntmps125
    go_upto_region 1 with fail
    refine wp_region_held_drew (S := (fun w' => w'.cell? ⟨b, 0, none⟩ = some (.slice A h.objs.length c) ∧ w'.cell? ⟨b, 1, none⟩ = some (.int .i64 h.cap) ∧ w'.cell? ⟨b, 2, none⟩ = some (.int .i64 h.last) ∧ w'.cell? ⟨b, 3, none⟩ = some (.int .i64 s) ∧ w'.cell? ⟨b, 4, none⟩ = some (.slice (some ⟨p, o, none⟩) args.length da) ∧ w'.cell? ⟨p, o, none⟩ = some (.int .i64 a0) ∧ w'.cell? ⟨kb, 0, none⟩ = some (.func (.func 96) #[] #[]) ∧ Below w.heap.size w w')) (by kernel_rfl) ?_ (fun hH0 => ?_)
    · exact ⟨cell_later (Below.refl w.heap.size w).drew x0, cell_later (Below.refl w.heap.size w).drew x1, cell_later (Below.refl w.heap.size w).drew x2, cell_later (Below.refl w.heap.size w).drew x3, cell_later (Below.refl w.heap.size w).drew x4, cell_later (Below.refl w.heap.size w).drew q0, cell_later (Below.refl w.heap.size w).drew k0, (Below.refl _ _).drew⟩
    refine tkI 0 ⟨some 4, .load 63 (.tmp 1), 63, "prim.go:128", #[], none⟩ ?v530 rfl (by kernel_rfl) (by rfl) ?y530 ?_
    case y530 => intro w hSw; (try dsimp only at hSw); go_simp; all_goals with_reducible rfl
    try simp only [apt12]
    refine tkI 1 ⟨some 5, .move (.tmp 0), 70, "prim.go:128", #[], none⟩ ?v531 rfl (by kernel_rfl) (by rfl) ?y531 ?_
    case y531 => intro w hSw; (try dsimp only at hSw); go_simp; all_goals with_reducible rfl
    try simp only [apt12]
    refine tkI 2 ⟨some 6, .nilCheck (.tmp 5), 0, "prim.go:128", #[⟨1, .data⟩], none⟩ ?v532 rfl (by kernel_rfl) (by rfl) ?y532 ?_
    case y532 => intro w hSw; (try dsimp only at hSw); go_simp; all_goals with_reducible rfl
    try simp only [apt12]
    refine tkI 3 ⟨some 7, .fieldAddr 49 (.tmp 6) 1, 0, "prim.go:128", #[⟨2, .data⟩], none⟩ ?v533 rfl (by kernel_rfl) (by rfl) ?y533 ?_
    case y533 => intro w hSw; (try dsimp only at hSw); go_simp; all_goals with_reducible rfl
    try simp only [apt12]
    refine tkI 4 ⟨some 8, .load 3 (.tmp 7), 3, "prim.go:128", #[⟨3, .data⟩], none⟩ ?v534 rfl (by kernel_rfl) (by rfl) ?y534 ?_
    case y534 => intro w hSw; (try dsimp only at hSw); go_simp; all_goals with_reducible rfl
    try simp only [apt12]
    refine tkI 6 ⟨some 10, .move (.tmp 0), 70, "prim.go:128", #[], none⟩ ?v535 rfl (by kernel_rfl) (by rfl) ?y535 ?_
    case y535 => intro w hSw; (try dsimp only at hSw); go_simp; all_goals with_reducible rfl
    try simp only [apt12]
    refine tkI 7 ⟨some 11, .nilCheck (.tmp 10), 0, "prim.go:128", #[⟨6, .data⟩], none⟩ ?v536 rfl (by kernel_rfl) (by rfl) ?y536 ?_
    case y536 => intro w hSw; (try dsimp only at hSw); go_simp; all_goals with_reducible rfl
    try simp only [apt12]
    refine tkI 8 ⟨some 12, .fieldAddr 49 (.tmp 11) 2, 0, "prim.go:128", #[⟨7, .data⟩], none⟩ ?v537 rfl (by kernel_rfl) (by rfl) ?y537 ?_
    case y537 => intro w hSw; (try dsimp only at hSw); go_simp; all_goals with_reducible rfl
    try simp only [apt12]
    refine tkI 9 ⟨some 13, .load 25 (.tmp 12), 25, "prim.go:128", #[⟨8, .data⟩], none⟩ ?v538 rfl (by kernel_rfl) (by rfl) ?y538 ?_
    case y538 => intro w hSw; (try dsimp only at hSw); go_simp; all_goals with_reducible rfl
    try simp only [apt12]
    refine tkI 10 ⟨some 14, .indexAddr 25 (.tmp 13) (.const (Go.Value.int .i64 0)), 0, "prim.go:128", #[⟨9, .data⟩], none⟩ ?v539 rfl (by kernel_rfl) (by rfl) ?y539 ?_
    case y539 => intro w hSw; (try dsimp only at hSw); go_simp; all_goals with_reducible rfl
    try simp only [apt12]
    refine tkI 11 ⟨some 15, .load 3 (.tmp 14), 3, "prim.go:128", #[⟨10, .data⟩], none⟩ ?v540 rfl (by kernel_rfl) (by rfl) ?y540 ?_
    case y540 => intro w hSw; (try dsimp only at hSw); go_simp; all_goals with_reducible rfl
    try simp only [apt12]
    refine wpAnyH_ready (rs := [5]) (by kernel_rfl) (by simp) ?_
    refine AllReadyH.cons (i := 5) (o := ⟨some 9, .call { callee := .value (.func 127), args := #[.tmp 8], argTypes := #[3] }, 3, "prim.go:128", #[⟨4, .data⟩], none⟩) rfl (fun K hK => ?_) AllReadyH.nil
    go_simp
    go_at_call 127
    have BB1 : Hid (Below w.heap.size w _) := (Below.refl _ _).drew
    refine (num_no13 hs _).mono ?_
    rintro e u9 ⟨rfl, rfl⟩
    exact ⟨rfl, pr_stop13 BB1.out (by rw [HRR.out, if_pos (.inl hs)]; rfl) (by decide)⟩
  cases ha : nB a0
  · go_enter Tryz.func125, Tryz.ntmps125
    go_upto_region 1 with fail
    refine wp_region_held_drew (S := (fun w' => w'.cell? ⟨b, 0, none⟩ = some (.slice A h.objs.length c) ∧ w'.cell? ⟨b, 1, none⟩ = some (.int .i64 h.cap) ∧ w'.cell? ⟨b, 2, none⟩ = some (.int .i64 h.last) ∧ w'.cell? ⟨b, 3, none⟩ = some (.int .i64 s) ∧ w'.cell? ⟨b, 4, none⟩ = some (.slice (some ⟨p, o, none⟩) args.length da) ∧ w'.cell? ⟨p, o, none⟩ = some (.int .i64 a0) ∧ w'.cell? ⟨kb, 0, none⟩ = some (.func (.func 96) #[] #[]) ∧ Below w.heap.size w w')) (by kernel_rfl) ?_ (fun hH0 => ?_)
    · exact ⟨cell_later (Below.refl w.heap.size w).drew x0, cell_later (Below.refl w.heap.size w).drew x1, cell_later (Below.refl w.heap.size w).drew x2, cell_later (Below.refl w.heap.size w).drew x3, cell_later (Below.refl w.heap.size w).drew x4, cell_later (Below.refl w.heap.size w).drew q0, cell_later (Below.refl w.heap.size w).drew k0, (Below.refl _ _).drew⟩
    refine tkI 0 ⟨some 4, .load 63 (.tmp 1), 63, "prim.go:128", #[], none⟩ ?v541 rfl (by kernel_rfl) (by rfl) ?y541 ?_
    case y541 => intro w hSw; (try dsimp only at hSw); go_simp; all_goals with_reducible rfl
    try simp only [apt12]
    refine tkI 1 ⟨some 5, .move (.tmp 0), 70, "prim.go:128", #[], none⟩ ?v542 rfl (by kernel_rfl) (by rfl) ?y542 ?_
    case y542 => intro w hSw; (try dsimp only at hSw); go_simp; all_goals with_reducible rfl
    try simp only [apt12]
    refine tkI 2 ⟨some 6, .nilCheck (.tmp 5), 0, "prim.go:128", #[⟨1, .data⟩], none⟩ ?v543 rfl (by kernel_rfl) (by rfl) ?y543 ?_
    case y543 => intro w hSw; (try dsimp only at hSw); go_simp; all_goals with_reducible rfl
    try simp only [apt12]
    refine tkI 3 ⟨some 7, .fieldAddr 49 (.tmp 6) 1, 0, "prim.go:128", #[⟨2, .data⟩], none⟩ ?v544 rfl (by kernel_rfl) (by rfl) ?y544 ?_
    case y544 => intro w hSw; (try dsimp only at hSw); go_simp; all_goals with_reducible rfl
    try simp only [apt12]
    refine tkI 4 ⟨some 8, .load 3 (.tmp 7), 3, "prim.go:128", #[⟨3, .data⟩], none⟩ ?v545 rfl (by kernel_rfl) (by rfl) ?y545 ?_
    case y545 => intro w hSw; (try dsimp only at hSw); go_simp; all_goals with_reducible rfl
    try simp only [apt12]
    refine tkI 6 ⟨some 10, .move (.tmp 0), 70, "prim.go:128", #[], none⟩ ?v546 rfl (by kernel_rfl) (by rfl) ?y546 ?_
    case y546 => intro w hSw; (try dsimp only at hSw); go_simp; all_goals with_reducible rfl
    try simp only [apt12]
    refine tkI 7 ⟨some 11, .nilCheck (.tmp 10), 0, "prim.go:128", #[⟨6, .data⟩], none⟩ ?v547 rfl (by kernel_rfl) (by rfl) ?y547 ?_
    case y547 => intro w hSw; (try dsimp only at hSw); go_simp; all_goals with_reducible rfl
    try simp only [apt12]
    refine tkI 8 ⟨some 12, .fieldAddr 49 (.tmp 11) 2, 0, "prim.go:128", #[⟨7, .data⟩], none⟩ ?v548 rfl (by kernel_rfl) (by rfl) ?y548 ?_
    case y548 => intro w hSw; (try dsimp only at hSw); go_simp; all_goals with_reducible rfl
    try simp only [apt12]
    refine tkI 9 ⟨some 13, .load 25 (.tmp 12), 25, "prim.go:128", #[⟨8, .data⟩], none⟩ ?v549 rfl (by kernel_rfl) (by rfl) ?y549 ?_
    case y549 => intro w hSw; (try dsimp only at hSw); go_simp; all_goals with_reducible rfl
    try simp only [apt12]
    refine tkI 10 ⟨some 14, .indexAddr 25 (.tmp 13) (.const (Go.Value.int .i64 0)), 0, "prim.go:128", #[⟨9, .data⟩], none⟩ ?v550 rfl (by kernel_rfl) (by rfl) ?y550 ?_
    case y550 => intro w hSw; (try dsimp only at hSw); go_simp; all_goals with_reducible rfl
    try simp only [apt12]
    refine tkI 11 ⟨some 15, .load 3 (.tmp 14), 3, "prim.go:128", #[⟨10, .data⟩], none⟩ ?v551 rfl (by kernel_rfl) (by rfl) ?y551 ?_
    case y551 => intro w hSw; (try dsimp only at hSw); go_simp; all_goals with_reducible rfl
    try simp only [apt12]
    refine wpAnyH_ready (rs := [5]) (by kernel_rfl) (by simp) ?_
    refine AllReadyH.cons (i := 5) (o := ⟨some 9, .call { callee := .value (.func 127), args := #[.tmp 8], argTypes := #[3] }, 3, "prim.go:128", #[⟨4, .data⟩], none⟩) rfl (fun K hK => ?_) AllReadyH.nil
    go_simp
    go_at_call 127
    have BB1 : Hid (Below w.heap.size w _) := (Below.refl _ _).drew
    refine (num_ok13 hs _).mono ?_
    rintro e u1 ⟨rfl, rfl⟩
    refine hK.out _ _ ?_ (fun hH1 => ?_)
    · exact hH0
    clear hK K
    try simp only [apt12]
    refine wpAnyH_ready (rs := [12]) (by kernel_rfl) (by simp) ?_
    refine AllReadyH.cons (i := 12) (o := ⟨some 16, .call { callee := .value (.func 127), args := #[.tmp 15], argTypes := #[3] }, 3, "prim.go:128", #[⟨11, .data⟩, ⟨5, .chain⟩], none⟩) rfl (fun K hK => ?_) AllReadyH.nil
    go_simp
    go_at_call 127
    have BB2 : Hid (Below w.heap.size w _) := hH1.2.2.2.2.2.2.2
    refine (num_no13 ha _).mono ?_
    rintro e u9 ⟨rfl, rfl⟩
    exact ⟨rfl, pr_stop13 BB2.out (by rw [HRR.out, if_pos (.inr ha)]; rfl) (by decide)⟩
  cases hq : smB (nV s - nV a0)
  · go_enter Tryz.func125, Tryz.ntmps125
    go_upto_region 1 with fail
    refine wp_region_held_drew (S := (fun w' => w'.cell? ⟨b, 0, none⟩ = some (.slice A h.objs.length c) ∧ w'.cell? ⟨b, 1, none⟩ = some (.int .i64 h.cap) ∧ w'.cell? ⟨b, 2, none⟩ = some (.int .i64 h.last) ∧ w'.cell? ⟨b, 3, none⟩ = some (.int .i64 s) ∧ w'.cell? ⟨b, 4, none⟩ = some (.slice (some ⟨p, o, none⟩) args.length da) ∧ w'.cell? ⟨p, o, none⟩ = some (.int .i64 a0) ∧ w'.cell? ⟨kb, 0, none⟩ = some (.func (.func 96) #[] #[]) ∧ Below w.heap.size w w')) (by kernel_rfl) ?_ (fun hH0 => ?_)
    · exact ⟨cell_later (Below.refl w.heap.size w).drew x0, cell_later (Below.refl w.heap.size w).drew x1, cell_later (Below.refl w.heap.size w).drew x2, cell_later (Below.refl w.heap.size w).drew x3, cell_later (Below.refl w.heap.size w).drew x4, cell_later (Below.refl w.heap.size w).drew q0, cell_later (Below.refl w.heap.size w).drew k0, (Below.refl _ _).drew⟩
    refine tkI 0 ⟨some 4, .load 63 (.tmp 1), 63, "prim.go:128", #[], none⟩ ?v552 rfl (by kernel_rfl) (by rfl) ?y552 ?_
    case y552 => intro w hSw; (try dsimp only at hSw); go_simp; all_goals with_reducible rfl
    try simp only [apt12]
    refine tkI 1 ⟨some 5, .move (.tmp 0), 70, "prim.go:128", #[], none⟩ ?v553 rfl (by kernel_rfl) (by rfl) ?y553 ?_
    case y553 => intro w hSw; (try dsimp only at hSw); go_simp; all_goals with_reducible rfl
    try simp only [apt12]
    refine tkI 2 ⟨some 6, .nilCheck (.tmp 5), 0, "prim.go:128", #[⟨1, .data⟩], none⟩ ?v554 rfl (by kernel_rfl) (by rfl) ?y554 ?_
    case y554 => intro w hSw; (try dsimp only at hSw); go_simp; all_goals with_reducible rfl
    try simp only [apt12]
    refine tkI 3 ⟨some 7, .fieldAddr 49 (.tmp 6) 1, 0, "prim.go:128", #[⟨2, .data⟩], none⟩ ?v555 rfl (by kernel_rfl) (by rfl) ?y555 ?_
    case y555 => intro w hSw; (try dsimp only at hSw); go_simp; all_goals with_reducible rfl
    try simp only [apt12]
    refine tkI 4 ⟨some 8, .load 3 (.tmp 7), 3, "prim.go:128", #[⟨3, .data⟩], none⟩ ?v556 rfl (by kernel_rfl) (by rfl) ?y556 ?_
    case y556 => intro w hSw; (try dsimp only at hSw); go_simp; all_goals with_reducible rfl
    try simp only [apt12]
    refine tkI 6 ⟨some 10, .move (.tmp 0), 70, "prim.go:128", #[], none⟩ ?v557 rfl (by kernel_rfl) (by rfl) ?y557 ?_
    case y557 => intro w hSw; (try dsimp only at hSw); go_simp; all_goals with_reducible rfl
    try simp only [apt12]
    refine tkI 7 ⟨some 11, .nilCheck (.tmp 10), 0, "prim.go:128", #[⟨6, .data⟩], none⟩ ?v558 rfl (by kernel_rfl) (by rfl) ?y558 ?_
    case y558 => intro w hSw; (try dsimp only at hSw); go_simp; all_goals with_reducible rfl
    try simp only [apt12]
    refine tkI 8 ⟨some 12, .fieldAddr 49 (.tmp 11) 2, 0, "prim.go:128", #[⟨7, .data⟩], none⟩ ?v559 rfl (by kernel_rfl) (by rfl) ?y559 ?_
    case y559 => intro w hSw; (try dsimp only at hSw); go_simp; all_goals with_reducible rfl
    try simp only [apt12]
    refine tkI 9 ⟨some 13, .load 25 (.tmp 12), 25, "prim.go:128", #[⟨8, .data⟩], none⟩ ?v560 rfl (by kernel_rfl) (by rfl) ?y560 ?_
    case y560 => intro w hSw; (try dsimp only at hSw); go_simp; all_goals with_reducible rfl
    try simp only [apt12]
    refine tkI 10 ⟨some 14, .indexAddr 25 (.tmp 13) (.const (Go.Value.int .i64 0)), 0, "prim.go:128", #[⟨9, .data⟩], none⟩ ?v561 rfl (by kernel_rfl) (by rfl) ?y561 ?_
    case y561 => intro w hSw; (try dsimp only at hSw); go_simp; all_goals with_reducible rfl
    try simp only [apt12]
    refine tkI 11 ⟨some 15, .load 3 (.tmp 14), 3, "prim.go:128", #[⟨10, .data⟩], none⟩ ?v562 rfl (by kernel_rfl) (by rfl) ?y562 ?_
    case y562 => intro w hSw; (try dsimp only at hSw); go_simp; all_goals with_reducible rfl
    try simp only [apt12]
    refine wpAnyH_ready (rs := [5]) (by kernel_rfl) (by simp) ?_
    refine AllReadyH.cons (i := 5) (o := ⟨some 9, .call { callee := .value (.func 127), args := #[.tmp 8], argTypes := #[3] }, 3, "prim.go:128", #[⟨4, .data⟩], none⟩) rfl (fun K hK => ?_) AllReadyH.nil
    go_simp
    go_at_call 127
    have BB1 : Hid (Below w.heap.size w _) := (Below.refl _ _).drew
    refine (num_ok13 hs _).mono ?_
    rintro e u1 ⟨rfl, rfl⟩
    refine hK.out _ _ ?_ (fun hH1 => ?_)
    · exact hH0
    clear hK K
    try simp only [apt12]
    refine wpAnyH_ready (rs := [12]) (by kernel_rfl) (by simp) ?_
    refine AllReadyH.cons (i := 12) (o := ⟨some 16, .call { callee := .value (.func 127), args := #[.tmp 15], argTypes := #[3] }, 3, "prim.go:128", #[⟨11, .data⟩, ⟨5, .chain⟩], none⟩) rfl (fun K hK => ?_) AllReadyH.nil
    go_simp
    go_at_call 127
    have BB2 : Hid (Below w.heap.size w _) := hH1.2.2.2.2.2.2.2
    refine (num_ok13 ha _).mono ?_
    rintro e u2 ⟨rfl, rfl⟩
    refine hK.out _ _ ?_ (fun hH2 => ?_)
    · exact hH1
    clear hK K
    try simp only [apt12]
    refine wpAnyH_ready (rs := [13]) (by kernel_rfl) (by simp) ?_
    refine AllReadyH.cons (i := 13) (o := ⟨some 17, .call { callee := .value (.tmp 4), args := #[.tmp 9, .tmp 16], argTypes := #[3, 3] }, 3, "prim.go:128", #[⟨0, .data⟩, ⟨5, .data⟩, ⟨12, .data⟩, ⟨12, .chain⟩], none⟩) rfl (fun K hK => ?_) AllReadyH.nil
    go_simp
    go_at_call 96
    have BB3 : Hid (Below w.heap.size w _) := hH2.2.2.2.2.2.2.2
    refine (sub_any13 (n_bd13 hs) (n_bd13 ha) _).mono ?_
    rintro e u3 ⟨rfl, rfl⟩
    refine hK.out _ _ ?_ (fun hH3 => ?_)
    · exact hH2
    clear hK K
    try simp only [apt12]
    refine wpAnyH_ready (rs := [14]) (by kernel_rfl) (by simp) ?_
    refine AllReadyH.cons (i := 14) (o := ⟨some 18, .call { callee := .value (.func 126), args := #[.tmp 17], argTypes := #[3] }, 3, "prim.go:128", #[⟨13, .data⟩, ⟨13, .chain⟩], none⟩) rfl (fun K hK => ?_) AllReadyH.nil
    go_simp
    go_at_call 126
    have BB4 : Hid (Below w.heap.size w _) := hH3.2.2.2.2.2.2.2
    refine (small_no13 hq _).mono ?_
    rintro e u9 ⟨rfl, rfl⟩
    exact ⟨rfl, pr_stop13 BB4.out (by rw [HRR.out, if_neg (by rw [hs, ha]; simp), in_no13 hq]) (by decide)⟩
  go_enter Tryz.func125, Tryz.ntmps125
  go_upto_region 1 with fail
  refine wp_region_held_drew (S := (fun w' => w'.cell? ⟨b, 0, none⟩ = some (.slice A h.objs.length c) ∧ w'.cell? ⟨b, 1, none⟩ = some (.int .i64 h.cap) ∧ w'.cell? ⟨b, 2, none⟩ = some (.int .i64 h.last) ∧ w'.cell? ⟨b, 3, none⟩ = some (.int .i64 s) ∧ w'.cell? ⟨b, 4, none⟩ = some (.slice (some ⟨p, o, none⟩) args.length da) ∧ w'.cell? ⟨p, o, none⟩ = some (.int .i64 a0) ∧ w'.cell? ⟨kb, 0, none⟩ = some (.func (.func 96) #[] #[]) ∧ Below w.heap.size w w')) (by kernel_rfl) ?_ (fun hH0 => ?_)
  · exact ⟨cell_later (Below.refl w.heap.size w).drew x0, cell_later (Below.refl w.heap.size w).drew x1, cell_later (Below.refl w.heap.size w).drew x2, cell_later (Below.refl w.heap.size w).drew x3, cell_later (Below.refl w.heap.size w).drew x4, cell_later (Below.refl w.heap.size w).drew q0, cell_later (Below.refl w.heap.size w).drew k0, (Below.refl _ _).drew⟩
  refine tkI 0 ⟨some 4, .load 63 (.tmp 1), 63, "prim.go:128", #[], none⟩ ?v563 rfl (by kernel_rfl) (by rfl) ?y563 ?_
  case y563 => intro w hSw; (try dsimp only at hSw); go_simp; all_goals with_reducible rfl
  try simp only [apt12]
  refine tkI 1 ⟨some 5, .move (.tmp 0), 70, "prim.go:128", #[], none⟩ ?v564 rfl (by kernel_rfl) (by rfl) ?y564 ?_
  case y564 => intro w hSw; (try dsimp only at hSw); go_simp; all_goals with_reducible rfl
  try simp only [apt12]
  refine tkI 2 ⟨some 6, .nilCheck (.tmp 5), 0, "prim.go:128", #[⟨1, .data⟩], none⟩ ?v565 rfl (by kernel_rfl) (by rfl) ?y565 ?_
  case y565 => intro w hSw; (try dsimp only at hSw); go_simp; all_goals with_reducible rfl
  try simp only [apt12]
  refine tkI 3 ⟨some 7, .fieldAddr 49 (.tmp 6) 1, 0, "prim.go:128", #[⟨2, .data⟩], none⟩ ?v566 rfl (by kernel_rfl) (by rfl) ?y566 ?_
  case y566 => intro w hSw; (try dsimp only at hSw); go_simp; all_goals with_reducible rfl
  try simp only [apt12]
  refine tkI 4 ⟨some 8, .load 3 (.tmp 7), 3, "prim.go:128", #[⟨3, .data⟩], none⟩ ?v567 rfl (by kernel_rfl) (by rfl) ?y567 ?_
  case y567 => intro w hSw; (try dsimp only at hSw); go_simp; all_goals with_reducible rfl
  try simp only [apt12]
  refine tkI 6 ⟨some 10, .move (.tmp 0), 70, "prim.go:128", #[], none⟩ ?v568 rfl (by kernel_rfl) (by rfl) ?y568 ?_
  case y568 => intro w hSw; (try dsimp only at hSw); go_simp; all_goals with_reducible rfl
  try simp only [apt12]
  refine tkI 7 ⟨some 11, .nilCheck (.tmp 10), 0, "prim.go:128", #[⟨6, .data⟩], none⟩ ?v569 rfl (by kernel_rfl) (by rfl) ?y569 ?_
  case y569 => intro w hSw; (try dsimp only at hSw); go_simp; all_goals with_reducible rfl
  try simp only [apt12]
  refine tkI 8 ⟨some 12, .fieldAddr 49 (.tmp 11) 2, 0, "prim.go:128", #[⟨7, .data⟩], none⟩ ?v570 rfl (by kernel_rfl) (by rfl) ?y570 ?_
  case y570 => intro w hSw; (try dsimp only at hSw); go_simp; all_goals with_reducible rfl
  try simp only [apt12]
  refine tkI 9 ⟨some 13, .load 25 (.tmp 12), 25, "prim.go:128", #[⟨8, .data⟩], none⟩ ?v571 rfl (by kernel_rfl) (by rfl) ?y571 ?_
  case y571 => intro w hSw; (try dsimp only at hSw); go_simp; all_goals with_reducible rfl
  try simp only [apt12]
  refine tkI 10 ⟨some 14, .indexAddr 25 (.tmp 13) (.const (Go.Value.int .i64 0)), 0, "prim.go:128", #[⟨9, .data⟩], none⟩ ?v572 rfl (by kernel_rfl) (by rfl) ?y572 ?_
  case y572 => intro w hSw; (try dsimp only at hSw); go_simp; all_goals with_reducible rfl
  try simp only [apt12]
  refine tkI 11 ⟨some 15, .load 3 (.tmp 14), 3, "prim.go:128", #[⟨10, .data⟩], none⟩ ?v573 rfl (by kernel_rfl) (by rfl) ?y573 ?_
  case y573 => intro w hSw; (try dsimp only at hSw); go_simp; all_goals with_reducible rfl
  try simp only [apt12]
  refine wpAnyH_ready (rs := [5]) (by kernel_rfl) (by simp) ?_
  refine AllReadyH.cons (i := 5) (o := ⟨some 9, .call { callee := .value (.func 127), args := #[.tmp 8], argTypes := #[3] }, 3, "prim.go:128", #[⟨4, .data⟩], none⟩) rfl (fun K hK => ?_) AllReadyH.nil
  go_simp
  go_at_call 127
  have BB1 : Hid (Below w.heap.size w _) := (Below.refl _ _).drew
  refine (num_ok13 hs _).mono ?_
  rintro e u1 ⟨rfl, rfl⟩
  refine hK.out _ _ ?_ (fun hH1 => ?_)
  · exact hH0
  clear hK K
  try simp only [apt12]
  refine wpAnyH_ready (rs := [12]) (by kernel_rfl) (by simp) ?_
  refine AllReadyH.cons (i := 12) (o := ⟨some 16, .call { callee := .value (.func 127), args := #[.tmp 15], argTypes := #[3] }, 3, "prim.go:128", #[⟨11, .data⟩, ⟨5, .chain⟩], none⟩) rfl (fun K hK => ?_) AllReadyH.nil
  go_simp
  go_at_call 127
  have BB2 : Hid (Below w.heap.size w _) := hH1.2.2.2.2.2.2.2
  refine (num_ok13 ha _).mono ?_
  rintro e u2 ⟨rfl, rfl⟩
  refine hK.out _ _ ?_ (fun hH2 => ?_)
  · exact hH1
  clear hK K
  try simp only [apt12]
  refine wpAnyH_ready (rs := [13]) (by kernel_rfl) (by simp) ?_
  refine AllReadyH.cons (i := 13) (o := ⟨some 17, .call { callee := .value (.tmp 4), args := #[.tmp 9, .tmp 16], argTypes := #[3, 3] }, 3, "prim.go:128", #[⟨0, .data⟩, ⟨5, .data⟩, ⟨12, .data⟩, ⟨12, .chain⟩], none⟩) rfl (fun K hK => ?_) AllReadyH.nil
  go_simp
  go_at_call 96
  have BB3 : Hid (Below w.heap.size w _) := hH2.2.2.2.2.2.2.2
  refine (sub_any13 (n_bd13 hs) (n_bd13 ha) _).mono ?_
  rintro e u3 ⟨rfl, rfl⟩
  refine hK.out _ _ ?_ (fun hH3 => ?_)
  · exact hH2
  clear hK K
  try simp only [apt12]
  refine wpAnyH_ready (rs := [14]) (by kernel_rfl) (by simp) ?_
  refine AllReadyH.cons (i := 14) (o := ⟨some 18, .call { callee := .value (.func 126), args := #[.tmp 17], argTypes := #[3] }, 3, "prim.go:128", #[⟨13, .data⟩, ⟨13, .chain⟩], none⟩) rfl (fun K hK => ?_) AllReadyH.nil
  go_simp
  go_at_call 126
  have BB4 : Hid (Below w.heap.size w _) := hH3.2.2.2.2.2.2.2
  refine (small_ok13 hq _).mono ?_
  rintro e u4 ⟨rfl, rfl⟩
  refine hK.out _ _ ?_ (fun hH4 => ?_)
  · exact hH3
  clear hK K
  try simp only [apt12]
  refine tkI 15 ⟨some 3, .assign (.tmp 18), 3, "prim.go:128", #[⟨14, .data⟩, ⟨14, .chain⟩, ⟨0, .phase⟩, ⟨1, .phase⟩, ⟨2, .phase⟩, ⟨3, .phase⟩, ⟨4, .phase⟩, ⟨5, .phase⟩, ⟨6, .phase⟩, ⟨7, .phase⟩, ⟨8, .phase⟩, ⟨9, .phase⟩, ⟨10, .phase⟩, ⟨11, .phase⟩, ⟨12, .phase⟩, ⟨13, .phase⟩, ⟨14, .phase⟩], none⟩ ?v574 rfl (by kernel_rfl) (by rfl) ?y574 ?_
  case y574 => intro w hSw; (try dsimp only at hSw); go_simp; all_goals with_reducible rfl
  try simp only [apt12]
  refine wpAnyH_done (by kernel_rfl) ?_ _
  go_wp2_with fail
  go_ret
  exact pr_keep13 HI.out (hH4.2.2.2.2.2.2.2) (by rw [HRR.out, if_neg (by rw [hs, ha]; simp), in_ok13 hq])
set_option maxHeartbeats 1000000 in
theorem ofmul_any13 (b base : Nat) (h : Hp) (A : Option Addr) (c : Nat) (s : Int) (args : List Int) (SA : Option Addr) (da : Nat) (w : World) (I : In13 w b base h A c s args SA da) (hn : 0 < args.length) (kb : Nat) (hk : w.cell? ⟨kb, 0, none⟩ = some (.func (.func 97) #[] #[])) (hkb : kb ≠ b) :
    Calls Tryz.prog 125 #[.pointer (some ⟨b, 0, none⟩), .pointer (some ⟨kb, 0, none⟩)] w (Po13 w b h A c s args.length SA da (if nB s = false ∨ nB (args.getD 0 0) = false then fa13 h else in13 h (nV s * nV (args.getD 0 0)))) := by
  obtain ⟨a0, ha0⟩ : ∃ a, a = args.getD 0 0 := ⟨_, rfl⟩
  rw [← ha0]
  have HI := hid I
  have HLA := hid (fun k => has_arg13 I.hall (k := k))
  obtain ⟨p, o, hSA, q0, hpb⟩ := I.arg (k := 0) (by omega)
  subst hSA
  rw [← ha0] at q0
  simp only [Nat.add_zero] at q0
  have hn0 : 0 < args.length := by omega
  have hn0I : (0 : Int) < (args.length : Int) := by omega
  have HPB := hid hpb
  obtain ⟨x0, x1, x2, x3, x4⟩ := I.box.c5
  have HA0 := hid ha0
  clear I hpb ha0
  have k0 := hk
  clear hk hkb
  obtain ⟨rr, hrr⟩ : ∃ r : Rs, r = (if nB s = false ∨ nB a0 = false then fa13 h else in13 h (nV s * nV a0)) := ⟨_, rfl⟩
  rw [← hrr]
  have HRR := hid hrr
  clear hrr
  cases hs : nB s
  · go_enter Tryz.func125, Tryz.ntmps125
    go_upto_region 1 with fail
    refine wp_region_held_drew (S := (fun w' => w'.cell? ⟨b, 0, none⟩ = some (.slice A h.objs.length c) ∧ w'.cell? ⟨b, 1, none⟩ = some (.int .i64 h.cap) ∧ w'.cell? ⟨b, 2, none⟩ = some (.int .i64 h.last) ∧ w'.cell? ⟨b, 3, none⟩ = some (.int .i64 s) ∧ w'.cell? ⟨b, 4, none⟩ = some (.slice (some ⟨p, o, none⟩) args.length da) ∧ w'.cell? ⟨p, o, none⟩ = some (.int .i64 a0) ∧ w'.cell? ⟨kb, 0, none⟩ = some (.func (.func 97) #[] #[]) ∧ Below w.heap.size w w')) (by kernel_rfl) ?_ (fun hH0 => ?_)
    · exact ⟨cell_later (Below.refl w.heap.size w).drew x0, cell_later (Below.refl w.heap.size w).drew x1, cell_later (Below.refl w.heap.size w).drew x2, cell_later (Below.refl w.heap.size w).drew x3, cell_later (Below.refl w.heap.size w).drew x4, cell_later (Below.refl w.heap.size w).drew q0, cell_later (Below.refl w.heap.size w).drew k0, (Below.refl _ _).drew⟩
    refine tkI 0 ⟨some 4, .load 63 (.tmp 1), 63, "prim.go:128", #[], none⟩ ?v575 rfl (by kernel_rfl) (by rfl) ?y575 ?_
    case y575 => intro w hSw; (try dsimp only at hSw); go_simp; all_goals with_reducible rfl
    try simp only [apt12]
    refine tkI 1 ⟨some 5, .move (.tmp 0), 70, "prim.go:128", #[], none⟩ ?v576 rfl (by kernel_rfl) (by rfl) ?y576 ?_
    case y576 => intro w hSw; (try dsimp only at hSw); go_simp; all_goals with_reducible rfl
    try simp only [apt12]
    refine tkI 2 ⟨some 6, .nilCheck (.tmp 5), 0, "prim.go:128", #[⟨1, .data⟩], none⟩ ?v577 rfl (by kernel_rfl) (by rfl) ?y577 ?_
    case y577 => intro w hSw; (try dsimp only at hSw); go_simp; all_goals with_reducible rfl
    try simp only [apt12]
    refine tkI 3 ⟨some 7, .fieldAddr 49 (.tmp 6) 1, 0, "prim.go:128", #[⟨2, .data⟩], none⟩ ?v578 rfl (by kernel_rfl) (by rfl) ?y578 ?_
    case y578 => intro w hSw; (try dsimp only at hSw); go_simp; all_goals with_reducible rfl
    try simp only [apt12]
    refine tkI 4 ⟨some 8, .load 3 (.tmp 7), 3, "prim.go:128", #[⟨3, .data⟩], none⟩ ?v579 rfl (by kernel_rfl) (by rfl) ?y579 ?_
    case y579 => intro w hSw; (try dsimp only at hSw); go_simp; all_goals with_reducible rfl
    try simp only [apt12]
    refine tkI 6 ⟨some 10, .move (.tmp 0), 70, "prim.go:128", #[], none⟩ ?v580 rfl (by kernel_rfl) (by rfl) ?y580 ?_
    case y580 => intro w hSw; (try dsimp only at hSw); go_simp; all_goals with_reducible rfl
    try simp only [apt12]
    refine tkI 7 ⟨some 11, .nilCheck (.tmp 10), 0, "prim.go:128", #[⟨6, .data⟩], none⟩ ?v581 rfl (by kernel_rfl) (by rfl) ?y581 ?_
    case y581 => intro w hSw; (try dsimp only at hSw); go_simp; all_goals with_reducible rfl
    try simp only [apt12]
    refine tkI 8 ⟨some 12, .fieldAddr 49 (.tmp 11) 2, 0, "prim.go:128", #[⟨7, .data⟩], none⟩ ?v582 rfl (by kernel_rfl) (by rfl) ?y582 ?_
    case y582 => intro w hSw; (try dsimp only at hSw); go_simp; all_goals with_reducible rfl
    try simp only [apt12]
    refine tkI 9 ⟨some 13, .load 25 (.tmp 12), 25, "prim.go:128", #[⟨8, .data⟩], none⟩ ?v583 rfl (by kernel_rfl) (by rfl) ?y583 ?_
    case y583 => intro w hSw; (try dsimp only at hSw); go_simp; all_goals with_reducible rfl
    try simp only [apt12]
    refine tkI 10 ⟨some 14, .indexAddr 25 (.tmp 13) (.const (Go.Value.int .i64 0)), 0, "prim.go:128", #[⟨9, .data⟩], none⟩ ?v584 rfl (by kernel_rfl) (by rfl) ?y584 ?_
    case y584 => intro w hSw; (try dsimp only at hSw); go_simp; all_goals with_reducible rfl
    try simp only [apt12]
    refine tkI 11 ⟨some 15, .load 3 (.tmp 14), 3, "prim.go:128", #[⟨10, .data⟩], none⟩ ?v585 rfl (by kernel_rfl) (by rfl) ?y585 ?_
    case y585 => intro w hSw; (try dsimp only at hSw); go_simp; all_goals with_reducible rfl
    try simp only [apt12]
    refine wpAnyH_ready (rs := [5]) (by kernel_rfl) (by simp) ?_
    refine AllReadyH.cons (i := 5) (o := ⟨some 9, .call { callee := .value (.func 127), args := #[.tmp 8], argTypes := #[3] }, 3, "prim.go:128", #[⟨4, .data⟩], none⟩) rfl (fun K hK => ?_) AllReadyH.nil
    go_simp
    go_at_call 127
    have BB1 : Hid (Below w.heap.size w _) := (Below.refl _ _).drew
    refine (num_no13 hs _).mono ?_
    rintro e u9 ⟨rfl, rfl⟩
    exact ⟨rfl, pr_stop13 BB1.out (by rw [HRR.out, if_pos (.inl hs)]; rfl) (by decide)⟩
  cases ha : nB a0
  · go_enter Tryz.func125, Tryz.ntmps125
    go_upto_region 1 with fail
    refine wp_region_held_drew (S := (fun w' => w'.cell? ⟨b, 0, none⟩ = some (.slice A h.objs.length c) ∧ w'.cell? ⟨b, 1, none⟩ = some (.int .i64 h.cap) ∧ w'.cell? ⟨b, 2, none⟩ = some (.int .i64 h.last) ∧ w'.cell? ⟨b, 3, none⟩ = some (.int .i64 s) ∧ w'.cell? ⟨b, 4, none⟩ = some (.slice (some ⟨p, o, none⟩) args.length da) ∧ w'.cell? ⟨p, o, none⟩ = some (.int .i64 a0) ∧ w'.cell? ⟨kb, 0, none⟩ = some (.func (.func 97) #[] #[]) ∧ Below w.heap.size w w')) (by kernel_rfl) ?_ (fun hH0 => ?_)
    · exact ⟨cell_later (Below.refl w.heap.size w).drew x0, cell_later (Below.refl w.heap.size w).drew x1, cell_later (Below.refl w.heap.size w).drew x2, cell_later (Below.refl w.heap.size w).drew x3, cell_later (Below.refl w.heap.size w).drew x4, cell_later (Below.refl w.heap.size w).drew q0, cell_later (Below.refl w.heap.size w).drew k0, (Below.refl _ _).drew⟩
    refine tkI 0 ⟨some 4, .load 63 (.tmp 1), 63, "prim.go:128", #[], none⟩ ?v586 rfl (by kernel_rfl) (by rfl) ?y586 ?_
    case y586 => intro w hSw; (try dsimp only at hSw); go_simp; all_goals with_reducible rfl
    try simp only [apt12]
    refine tkI 1 ⟨some 5, .move (.tmp 0), 70, "prim.go:128", #[], none⟩ ?v587 rfl (by kernel_rfl) (by rfl) ?y587 ?_
    case y587 => intro w hSw; (try dsimp only at hSw); go_simp; all_goals with_reducible rfl
    try simp only [apt12]
    refine tkI 2 ⟨some 6, .nilCheck (.tmp 5), 0, "prim.go:128", #[⟨1, .data⟩], none⟩ ?v588 rfl (by kernel_rfl) (by rfl) ?y588 ?_
    case y588 => intro w hSw; (try dsimp only at hSw); go_simp; all_goals with_reducible rfl
    try simp only [apt12]
    refine tkI 3 ⟨some 7, .fieldAddr 49 (.tmp 6) 1, 0, "prim.go:128", #[⟨2, .data⟩], none⟩ ?v589 rfl (by kernel_rfl) (by rfl) ?y589 ?_
    case y589 => intro w hSw; (try dsimp only at hSw); go_simp; all_goals with_reducible rfl
    try simp only [apt12]
    refine tkI 4 ⟨some 8, .load 3 (.tmp 7), 3, "prim.go:128", #[⟨3, .data⟩], none⟩ ?v590 rfl (by kernel_rfl) (by rfl) ?y590 ?_
    case y590 => intro w hSw; (try dsimp only at hSw); go_simp; all_goals with_reducible rfl
    try simp only [apt12]
    refine tkI 6 ⟨some 10, .move (.tmp 0), 70, "prim.go:128", #[], none⟩ ?v591 rfl (by kernel_rfl) (by rfl) ?y591 ?_
    case y591 => intro w hSw; (try dsimp only at hSw); go_simp; all_goals with_reducible rfl
    try simp only [apt12]
    refine tkI 7 ⟨some 11, .nilCheck (.tmp 10), 0, "prim.go:128", #[⟨6, .data⟩], none⟩ ?v592 rfl (by kernel_rfl) (by rfl) ?y592 ?_
    case y592 => intro w hSw; (try dsimp only at hSw); go_simp; all_goals with_reducible rfl
    try simp only [apt12]
    refine tkI 8 ⟨some 12, .fieldAddr 49 (.tmp 11) 2, 0, "prim.go:128", #[⟨7, .data⟩], none⟩ ?v593 rfl (by kernel_rfl) (by rfl) ?y593 ?_
    case y593 => intro w hSw; (try dsimp only at hSw); go_simp; all_goals with_reducible rfl
    try simp only [apt12]
    refine tkI 9 ⟨some 13, .load 25 (.tmp 12), 25, "prim.go:128", #[⟨8, .data⟩], none⟩ ?v594 rfl (by kernel_rfl) (by rfl) ?y594 ?_
    case y594 => intro w hSw; (try dsimp only at hSw); go_simp; all_goals with_reducible rfl
    try simp only [apt12]
    refine tkI 10 ⟨some 14, .indexAddr 25 (.tmp 13) (.const (Go.Value.int .i64 0)), 0, "prim.go:128", #[⟨9, .data⟩], none⟩ ?v595 rfl (by kernel_rfl) (by rfl) ?y595 ?_
    case y595 => intro w hSw; (try dsimp only at hSw); go_simp; all_goals with_reducible rfl
    try simp only [apt12]
    refine tkI 11 ⟨some 15, .load 3 (.tmp 14), 3, "prim.go:128", #[⟨10, .data⟩], none⟩ ?v596 rfl (by kernel_rfl) (by rfl) ?y596 ?_
    case y596 => intro w hSw; (try dsimp only at hSw); go_simp; all_goals with_reducible rfl
    try simp only [apt12]
    refine wpAnyH_ready (rs := [5]) (by kernel_rfl) (by simp) ?_
    refine AllReadyH.cons (i := 5) (o := ⟨some 9, .call { callee := .value (.func 127), args := #[.tmp 8], argTypes := #[3] }, 3, "prim.go:128", #[⟨4, .data⟩], none⟩) rfl (fun K hK => ?_) AllReadyH.nil
    go_simp
    go_at_call 127
    have BB1 : Hid (Below w.heap.size w _) := (Below.refl _ _).drew
    refine (num_ok13 hs _).mono ?_
    rintro e u1 ⟨rfl, rfl⟩
    refine hK.out _ _ ?_ (fun hH1 => ?_)
    · exact hH0
    clear hK K
    try simp only [apt12]
    refine wpAnyH_ready (rs := [12]) (by kernel_rfl) (by simp) ?_
    refine AllReadyH.cons (i := 12) (o := ⟨some 16, .call { callee := .value (.func 127), args := #[.tmp 15], argTypes := #[3] }, 3, "prim.go:128", #[⟨11, .data⟩, ⟨5, .chain⟩], none⟩) rfl (fun K hK => ?_) AllReadyH.nil
    go_simp
    go_at_call 127
    have BB2 : Hid (Below w.heap.size w _) := hH1.2.2.2.2.2.2.2
    refine (num_no13 ha _).mono ?_
    rintro e u9 ⟨rfl, rfl⟩
    exact ⟨rfl, pr_stop13 BB2.out (by rw [HRR.out, if_pos (.inr ha)]; rfl) (by decide)⟩
  cases hq : smB (nV s * nV a0)
  · go_enter Tryz.func125, Tryz.ntmps125
    go_upto_region 1 with fail
    refine wp_region_held_drew (S := (fun w' => w'.cell? ⟨b, 0, none⟩ = some (.slice A h.objs.length c) ∧ w'.cell? ⟨b, 1, none⟩ = some (.int .i64 h.cap) ∧ w'.cell? ⟨b, 2, none⟩ = some (.int .i64 h.last) ∧ w'.cell? ⟨b, 3, none⟩ = some (.int .i64 s) ∧ w'.cell? ⟨b, 4, none⟩ = some (.slice (some ⟨p, o, none⟩) args.length da) ∧ w'.cell? ⟨p, o, none⟩ = some (.int .i64 a0) ∧ w'.cell? ⟨kb, 0, none⟩ = some (.func (.func 97) #[] #[]) ∧ Below w.heap.size w w')) (by kernel_rfl) ?_ (fun hH0 => ?_)
    · exact ⟨cell_later (Below.refl w.heap.size w).drew x0, cell_later (Below.refl w.heap.size w).drew x1, cell_later (Below.refl w.heap.size w).drew x2, cell_later (Below.refl w.heap.size w).drew x3, cell_later (Below.refl w.heap.size w).drew x4, cell_later (Below.refl w.heap.size w).drew q0, cell_later (Below.refl w.heap.size w).drew k0, (Below.refl _ _).drew⟩
    refine tkI 0 ⟨some 4, .load 63 (.tmp 1), 63, "prim.go:128", #[], none⟩ ?v597 rfl (by kernel_rfl) (by rfl) ?y597 ?_
    case y597 => intro w hSw; (try dsimp only at hSw); go_simp; all_goals with_reducible rfl
    try simp only [apt12]
    refine tkI 1 ⟨some 5, .move (.tmp 0), 70, "prim.go:128", #[], none⟩ ?v598 rfl (by kernel_rfl) (by rfl) ?y598 ?_
    case y598 => intro w hSw; (try dsimp only at hSw); go_simp; all_goals with_reducible rfl
    try simp only [apt12]
    refine tkI 2 ⟨some 6, .nilCheck (.tmp 5), 0, "prim.go:128", #[⟨1, .data⟩], none⟩ ?v599 rfl (by kernel_rfl) (by rfl) ?y599 ?_
    case y599 => intro w hSw; (try dsimp only at hSw); go_simp; all_goals with_reducible rfl
    try simp only [apt12]
    refine tkI 3 ⟨some 7, .fieldAddr 49 (.tmp 6) 1, 0, "prim.go:128", #[⟨2, .data⟩], none⟩ ?v600 rfl (by kernel_rfl) (by rfl) ?y600 ?_
    case y600 => intro w hSw; (try dsimp only at hSw); go_simp; all_goals with_reducible rfl
    try simp only [apt12]
    refine tkI 4 ⟨some 8, .load 3 (.tmp 7), 3, "prim.go:128", #[⟨3, .data⟩], none⟩ ?v601 rfl (by kernel_rfl) (by rfl) ?y601 ?_
    case y601 => intro w hSw; (try dsimp only at hSw); go_simp; all_goals with_reducible rfl
    try simp only [apt12]
    refine tkI 6 ⟨some 10, .move (.tmp 0), 70, "prim.go:128", #[], none⟩ ?v602 rfl (by kernel_rfl) (by rfl) ?y602 ?_
    case y602 => intro w hSw; (try dsimp only at hSw); go_simp; all_goals with_reducible rfl
    try simp only [apt12]
    refine tkI 7 ⟨some 11, .nilCheck (.tmp 10), 0, "prim.go:128", #[⟨6, .data⟩], none⟩ ?v603 rfl (by kernel_rfl) (by rfl) ?y603 ?_
    case y603 => intro w hSw; (try dsimp only at hSw); go_simp; all_goals with_reducible rfl
    try simp only [apt12]
    refine tkI 8 ⟨some 12, .fieldAddr 49 (.tmp 11) 2, 0, "prim.go:128", #[⟨7, .data⟩], none⟩ ?v604 rfl (by kernel_rfl) (by rfl) ?y604 ?_
    case y604 => intro w hSw; (try dsimp only at hSw); go_simp; all_goals with_reducible rfl
    try simp only [apt12]
    refine tkI 9 ⟨some 13, .load 25 (.tmp 12), 25, "prim.go:128", #[⟨8, .data⟩], none⟩ ?v605 rfl (by kernel_rfl) (by rfl) ?y605 ?_
    case y605 => intro w hSw; (try dsimp only at hSw); go_simp; all_goals with_reducible rfl
    try simp only [apt12]
    refine tkI 10 ⟨some 14, .indexAddr 25 (.tmp 13) (.const (Go.Value.int .i64 0)), 0, "prim.go:128", #[⟨9, .data⟩], none⟩ ?v606 rfl (by kernel_rfl) (by rfl) ?y606 ?_
    case y606 => intro w hSw; (try dsimp only at hSw); go_simp; all_goals with_reducible rfl
    try simp only [apt12]
    refine tkI 11 ⟨some 15, .load 3 (.tmp 14), 3, "prim.go:128", #[⟨10, .data⟩], none⟩ ?v607 rfl (by kernel_rfl) (by rfl) ?y607 ?_
    case y607 => intro w hSw; (try dsimp only at hSw); go_simp; all_goals with_reducible rfl
    try simp only [apt12]
    refine wpAnyH_ready (rs := [5]) (by kernel_rfl) (by simp) ?_
    refine AllReadyH.cons (i := 5) (o := ⟨some 9, .call { callee := .value (.func 127), args := #[.tmp 8], argTypes := #[3] }, 3, "prim.go:128", #[⟨4, .data⟩], none⟩) rfl (fun K hK => ?_) AllReadyH.nil
    go_simp
    go_at_call 127
    have BB1 : Hid (Below w.heap.size w _) := (Below.refl _ _).drew
    refine (num_ok13 hs _).mono ?_
    rintro e u1 ⟨rfl, rfl⟩
    refine hK.out _ _ ?_ (fun hH1 => ?_)
    · exact hH0
    clear hK K
    try simp only [apt12]
    refine wpAnyH_ready (rs := [12]) (by kernel_rfl) (by simp) ?_
    refine AllReadyH.cons (i := 12) (o := ⟨some 16, .call { callee := .value (.func 127), args := #[.tmp 15], argTypes := #[3] }, 3, "prim.go:128", #[⟨11, .data⟩, ⟨5, .chain⟩], none⟩) rfl (fun K hK => ?_) AllReadyH.nil
    go_simp
    go_at_call 127
    have BB2 : Hid (Below w.heap.size w _) := hH1.2.2.2.2.2.2.2
    refine (num_ok13 ha _).mono ?_
    rintro e u2 ⟨rfl, rfl⟩
    refine hK.out _ _ ?_ (fun hH2 => ?_)
    · exact hH1
    clear hK K
    try simp only [apt12]
    refine wpAnyH_ready (rs := [13]) (by kernel_rfl) (by simp) ?_
    refine AllReadyH.cons (i := 13) (o := ⟨some 17, .call { callee := .value (.tmp 4), args := #[.tmp 9, .tmp 16], argTypes := #[3, 3] }, 3, "prim.go:128", #[⟨0, .data⟩, ⟨5, .data⟩, ⟨12, .data⟩, ⟨12, .chain⟩], none⟩) rfl (fun K hK => ?_) AllReadyH.nil
    go_simp
    go_at_call 97
    have BB3 : Hid (Below w.heap.size w _) := hH2.2.2.2.2.2.2.2
    refine (mul_any13 (n_bd13 hs) (n_bd13 ha) _).mono ?_
    rintro e u3 ⟨rfl, rfl⟩
    refine hK.out _ _ ?_ (fun hH3 => ?_)
    · exact hH2
    clear hK K
    try simp only [apt12]
    refine wpAnyH_ready (rs := [14]) (by kernel_rfl) (by simp) ?_
    refine AllReadyH.cons (i := 14) (o := ⟨some 18, .call { callee := .value (.func 126), args := #[.tmp 17], argTypes := #[3] }, 3, "prim.go:128", #[⟨13, .data⟩, ⟨13, .chain⟩], none⟩) rfl (fun K hK => ?_) AllReadyH.nil
    go_simp
    go_at_call 126
    have BB4 : Hid (Below w.heap.size w _) := hH3.2.2.2.2.2.2.2
    refine (small_no13 hq _).mono ?_
    rintro e u9 ⟨rfl, rfl⟩
    exact ⟨rfl, pr_stop13 BB4.out (by rw [HRR.out, if_neg (by rw [hs, ha]; simp), in_no13 hq]) (by decide)⟩
  go_enter Tryz.func125, Tryz.ntmps125
  go_upto_region 1 with fail
  refine wp_region_held_drew (S := (fun w' => w'.cell? ⟨b, 0, none⟩ = some (.slice A h.objs.length c) ∧ w'.cell? ⟨b, 1, none⟩ = some (.int .i64 h.cap) ∧ w'.cell? ⟨b, 2, none⟩ = some (.int .i64 h.last) ∧ w'.cell? ⟨b, 3, none⟩ = some (.int .i64 s) ∧ w'.cell? ⟨b, 4, none⟩ = some (.slice (some ⟨p, o, none⟩) args.length da) ∧ w'.cell? ⟨p, o, none⟩ = some (.int .i64 a0) ∧ w'.cell? ⟨kb, 0, none⟩ = some (.func (.func 97) #[] #[]) ∧ Below w.heap.size w w')) (by kernel_rfl) ?_ (fun hH0 => ?_)
  · exact ⟨cell_later (Below.refl w.heap.size w).drew x0, cell_later (Below.refl w.heap.size w).drew x1, cell_later (Below.refl w.heap.size w).drew x2, cell_later (Below.refl w.heap.size w).drew x3, cell_later (Below.refl w.heap.size w).drew x4, cell_later (Below.refl w.heap.size w).drew q0, cell_later (Below.refl w.heap.size w).drew k0, (Below.refl _ _).drew⟩
  refine tkI 0 ⟨some 4, .load 63 (.tmp 1), 63, "prim.go:128", #[], none⟩ ?v608 rfl (by kernel_rfl) (by rfl) ?y608 ?_
  case y608 => intro w hSw; (try dsimp only at hSw); go_simp; all_goals with_reducible rfl
  try simp only [apt12]
  refine tkI 1 ⟨some 5, .move (.tmp 0), 70, "prim.go:128", #[], none⟩ ?v609 rfl (by kernel_rfl) (by rfl) ?y609 ?_
  case y609 => intro w hSw; (try dsimp only at hSw); go_simp; all_goals with_reducible rfl
  try simp only [apt12]
  refine tkI 2 ⟨some 6, .nilCheck (.tmp 5), 0, "prim.go:128", #[⟨1, .data⟩], none⟩ ?v610 rfl (by kernel_rfl) (by rfl) ?y610 ?_
  case y610 => intro w hSw; (try dsimp only at hSw); go_simp; all_goals with_reducible rfl
  try simp only [apt12]
  refine tkI 3 ⟨some 7, .fieldAddr 49 (.tmp 6) 1, 0, "prim.go:128", #[⟨2, .data⟩], none⟩ ?v611 rfl (by kernel_rfl) (by rfl) ?y611 ?_
  case y611 => intro w hSw; (try dsimp only at hSw); go_simp; all_goals with_reducible rfl
  try simp only [apt12]
  refine tkI 4 ⟨some 8, .load 3 (.tmp 7), 3, "prim.go:128", #[⟨3, .data⟩], none⟩ ?v612 rfl (by kernel_rfl) (by rfl) ?y612 ?_
  case y612 => intro w hSw; (try dsimp only at hSw); go_simp; all_goals with_reducible rfl
  try simp only [apt12]
  refine tkI 6 ⟨some 10, .move (.tmp 0), 70, "prim.go:128", #[], none⟩ ?v613 rfl (by kernel_rfl) (by rfl) ?y613 ?_
  case y613 => intro w hSw; (try dsimp only at hSw); go_simp; all_goals with_reducible rfl
  try simp only [apt12]
  refine tkI 7 ⟨some 11, .nilCheck (.tmp 10), 0, "prim.go:128", #[⟨6, .data⟩], none⟩ ?v614 rfl (by kernel_rfl) (by rfl) ?y614 ?_
  case y614 => intro w hSw; (try dsimp only at hSw); go_simp; all_goals with_reducible rfl
  try simp only [apt12]
  refine tkI 8 ⟨some 12, .fieldAddr 49 (.tmp 11) 2, 0, "prim.go:128", #[⟨7, .data⟩], none⟩ ?v615 rfl (by kernel_rfl) (by rfl) ?y615 ?_
  case y615 => intro w hSw; (try dsimp only at hSw); go_simp; all_goals with_reducible rfl
  try simp only [apt12]
  refine tkI 9 ⟨some 13, .load 25 (.tmp 12), 25, "prim.go:128", #[⟨8, .data⟩], none⟩ ?v616 rfl (by kernel_rfl) (by rfl) ?y616 ?_
  case y616 => intro w hSw; (try dsimp only at hSw); go_simp; all_goals with_reducible rfl
  try simp only [apt12]
  refine tkI 10 ⟨some 14, .indexAddr 25 (.tmp 13) (.const (Go.Value.int .i64 0)), 0, "prim.go:128", #[⟨9, .data⟩], none⟩ ?v617 rfl (by kernel_rfl) (by rfl) ?y617 ?_
  case y617 => intro w hSw; (try dsimp only at hSw); go_simp; all_goals with_reducible rfl
  try simp only [apt12]
  refine tkI 11 ⟨some 15, .load 3 (.tmp 14), 3, "prim.go:128", #[⟨10, .data⟩], none⟩ ?v618 rfl (by kernel_rfl) (by rfl) ?y618 ?_
  case y618 => intro w hSw; (try dsimp only at hSw); go_simp; all_goals with_reducible rfl
  try simp only [apt12]
  refine wpAnyH_ready (rs := [5]) (by kernel_rfl) (by simp) ?_
  refine AllReadyH.cons (i := 5) (o := ⟨some 9, .call { callee := .value (.func 127), args := #[.tmp 8], argTypes := #[3] }, 3, "prim.go:128", #[⟨4, .data⟩], none⟩) rfl (fun K hK => ?_) AllReadyH.nil
  go_simp
  go_at_call 127
  have BB1 : Hid (Below w.heap.size w _) := (Below.refl _ _).drew
  refine (num_ok13 hs _).mono ?_
  rintro e u1 ⟨rfl, rfl⟩
  refine hK.out _ _ ?_ (fun hH1 => ?_)
  · exact hH0
  clear hK K
  try simp only [apt12]
  refine wpAnyH_ready (rs := [12]) (by kernel_rfl) (by simp) ?_
  refine AllReadyH.cons (i := 12) (o := ⟨some 16, .call { callee := .value (.func 127), args := #[.tmp 15], argTypes := #[3] }, 3, "prim.go:128", #[⟨11, .data⟩, ⟨5, .chain⟩], none⟩) rfl (fun K hK => ?_) AllReadyH.nil
  go_simp
  go_at_call 127
  have BB2 : Hid (Below w.heap.size w _) := hH1.2.2.2.2.2.2.2
  refine (num_ok13 ha _).mono ?_
  rintro e u2 ⟨rfl, rfl⟩
  refine hK.out _ _ ?_ (fun hH2 => ?_)
  · exact hH1
  clear hK K
  try simp only [apt12]
  refine wpAnyH_ready (rs := [13]) (by kernel_rfl) (by simp) ?_
  refine AllReadyH.cons (i := 13) (o := ⟨some 17, .call { callee := .value (.tmp 4), args := #[.tmp 9, .tmp 16], argTypes := #[3, 3] }, 3, "prim.go:128", #[⟨0, .data⟩, ⟨5, .data⟩, ⟨12, .data⟩, ⟨12, .chain⟩], none⟩) rfl (fun K hK => ?_) AllReadyH.nil
  go_simp
  go_at_call 97
  have BB3 : Hid (Below w.heap.size w _) := hH2.2.2.2.2.2.2.2
  refine (mul_any13 (n_bd13 hs) (n_bd13 ha) _).mono ?_
  rintro e u3 ⟨rfl, rfl⟩
  refine hK.out _ _ ?_ (fun hH3 => ?_)
  · exact hH2
  clear hK K
  try simp only [apt12]
  refine wpAnyH_ready (rs := [14]) (by kernel_rfl) (by simp) ?_
  refine AllReadyH.cons (i := 14) (o := ⟨some 18, .call { callee := .value (.func 126), args := #[.tmp 17], argTypes := #[3] }, 3, "prim.go:128", #[⟨13, .data⟩, ⟨13, .chain⟩], none⟩) rfl (fun K hK => ?_) AllReadyH.nil
  go_simp
  go_at_call 126
  have BB4 : Hid (Below w.heap.size w _) := hH3.2.2.2.2.2.2.2
  refine (small_ok13 hq _).mono ?_
  rintro e u4 ⟨rfl, rfl⟩
  refine hK.out _ _ ?_ (fun hH4 => ?_)
  · exact hH3
  clear hK K
  try simp only [apt12]
  refine tkI 15 ⟨some 3, .assign (.tmp 18), 3, "prim.go:128", #[⟨14, .data⟩, ⟨14, .chain⟩, ⟨0, .phase⟩, ⟨1, .phase⟩, ⟨2, .phase⟩, ⟨3, .phase⟩, ⟨4, .phase⟩, ⟨5, .phase⟩, ⟨6, .phase⟩, ⟨7, .phase⟩, ⟨8, .phase⟩, ⟨9, .phase⟩, ⟨10, .phase⟩, ⟨11, .phase⟩, ⟨12, .phase⟩, ⟨13, .phase⟩, ⟨14, .phase⟩], none⟩ ?v619 rfl (by kernel_rfl) (by rfl) ?y619 ?_
  case y619 => intro w hSw; (try dsimp only at hSw); go_simp; all_goals with_reducible rfl
  try simp only [apt12]
  refine wpAnyH_done (by kernel_rfl) ?_ _
  go_wp2_with fail
  go_ret
  exact pr_keep13 HI.out (hH4.2.2.2.2.2.2.2) (by rw [HRR.out, if_neg (by rw [hs, ha]; simp), in_ok13 hq])
set_option maxHeartbeats 1000000 in
theorem ofquo_any13 (b base : Nat) (h : Hp) (A : Option Addr) (c : Nat) (s : Int) (args : List Int) (SA : Option Addr) (da : Nat) (w : World) (I : In13 w b base h A c s args SA da) (hn : 0 < args.length) (kb : Nat) (hk : w.cell? ⟨kb, 0, none⟩ = some (.func (.func 98) #[] #[])) (hkb : kb ≠ b) :
    Calls Tryz.prog 125 #[.pointer (some ⟨b, 0, none⟩), .pointer (some ⟨kb, 0, none⟩)] w (Po13 w b h A c s args.length SA da (if nB s = false ∨ nB (args.getD 0 0) = false then fa13 h else if nV (args.getD 0 0) = 0 then fa13 h else in13 h ((nV s).fdiv (nV (args.getD 0 0))))) := by
  obtain ⟨a0, ha0⟩ : ∃ a, a = args.getD 0 0 := ⟨_, rfl⟩
  rw [← ha0]
  have HI := hid I
  have HLA := hid (fun k => has_arg13 I.hall (k := k))
  obtain ⟨p, o, hSA, q0, hpb⟩ := I.arg (k := 0) (by omega)
  subst hSA
  rw [← ha0] at q0
  simp only [Nat.add_zero] at q0
  have hn0 : 0 < args.length := by omega
  have hn0I : (0 : Int) < (args.length : Int) := by omega
  have HPB := hid hpb
  obtain ⟨x0, x1, x2, x3, x4⟩ := I.box.c5
  have HA0 := hid ha0
  clear I hpb ha0
  have k0 := hk
  clear hk hkb
  obtain ⟨rr, hrr⟩ : ∃ r : Rs, r = (if nB s = false ∨ nB a0 = false then fa13 h else if nV a0 = 0 then fa13 h else in13 h ((nV s).fdiv (nV a0))) := ⟨_, rfl⟩
  rw [← hrr]
  have HRR := hid hrr
  clear hrr
  cases hs : nB s
  · go_enter Tryz.func125, Tryz.ntmps125
    go_upto_region 1 with fail
    refine wp_region_held_drew (S := (fun w' => w'.cell? ⟨b, 0, none⟩ = some (.slice A h.objs.length c) ∧ w'.cell? ⟨b, 1, none⟩ = some (.int .i64 h.cap) ∧ w'.cell? ⟨b, 2, none⟩ = some (.int .i64 h.last) ∧ w'.cell? ⟨b, 3, none⟩ = some (.int .i64 s) ∧ w'.cell? ⟨b, 4, none⟩ = some (.slice (some ⟨p, o, none⟩) args.length da) ∧ w'.cell? ⟨p, o, none⟩ = some (.int .i64 a0) ∧ w'.cell? ⟨kb, 0, none⟩ = some (.func (.func 98) #[] #[]) ∧ Below w.heap.size w w')) (by kernel_rfl) ?_ (fun hH0 => ?_)
    · exact ⟨cell_later (Below.refl w.heap.size w).drew x0, cell_later (Below.refl w.heap.size w).drew x1, cell_later (Below.refl w.heap.size w).drew x2, cell_later (Below.refl w.heap.size w).drew x3, cell_later (Below.refl w.heap.size w).drew x4, cell_later (Below.refl w.heap.size w).drew q0, cell_later (Below.refl w.heap.size w).drew k0, (Below.refl _ _).drew⟩
    refine tkI 0 ⟨some 4, .load 63 (.tmp 1), 63, "prim.go:128", #[], none⟩ ?v620 rfl (by kernel_rfl) (by rfl) ?y620 ?_
    case y620 => intro w hSw; (try dsimp only at hSw); go_simp; all_goals with_reducible rfl
    try simp only [apt12]
    refine tkI 1 ⟨some 5, .move (.tmp 0), 70, "prim.go:128", #[], none⟩ ?v621 rfl (by kernel_rfl) (by rfl) ?y621 ?_
    case y621 => intro w hSw; (try dsimp only at hSw); go_simp; all_goals with_reducible rfl
    try simp only [apt12]
    refine tkI 2 ⟨some 6, .nilCheck (.tmp 5), 0, "prim.go:128", #[⟨1, .data⟩], none⟩ ?v622 rfl (by kernel_rfl) (by rfl) ?y622 ?_
    case y622 => intro w hSw; (try dsimp only at hSw); go_simp; all_goals with_reducible rfl
    try simp only [apt12]
    refine tkI 3 ⟨some 7, .fieldAddr 49 (.tmp 6) 1, 0, "prim.go:128", #[⟨2, .data⟩], none⟩ ?v623 rfl (by kernel_rfl) (by rfl) ?y623 ?_
    case y623 => intro w hSw; (try dsimp only at hSw); go_simp; all_goals with_reducible rfl
    try simp only [apt12]
    refine tkI 4 ⟨some 8, .load 3 (.tmp 7), 3, "prim.go:128", #[⟨3, .data⟩], none⟩ ?v624 rfl (by kernel_rfl) (by rfl) ?y624 ?_
    case y624 => intro w hSw; (try dsimp only at hSw); go_simp; all_goals with_reducible rfl
    try simp only [apt12]
    refine tkI 6 ⟨some 10, .move (.tmp 0), 70, "prim.go:128", #[], none⟩ ?v625 rfl (by kernel_rfl) (by rfl) ?y625 ?_
    case y625 => intro w hSw; (try dsimp only at hSw); go_simp; all_goals with_reducible rfl
    try simp only [apt12]
    refine tkI 7 ⟨some 11, .nilCheck (.tmp 10), 0, "prim.go:128", #[⟨6, .data⟩], none⟩ ?v626 rfl (by kernel_rfl) (by rfl) ?y626 ?_
    case y626 => intro w hSw; (try dsimp only at hSw); go_simp; all_goals with_reducible rfl
    try simp only [apt12]
    refine tkI 8 ⟨some 12, .fieldAddr 49 (.tmp 11) 2, 0, "prim.go:128", #[⟨7, .data⟩], none⟩ ?v627 rfl (by kernel_rfl) (by rfl) ?y627 ?_
    case y627 => intro w hSw; (try dsimp only at hSw); go_simp; all_goals with_reducible rfl
    try simp only [apt12]
    refine tkI 9 ⟨some 13, .load 25 (.tmp 12), 25, "prim.go:128", #[⟨8, .data⟩], none⟩ ?v628 rfl (by kernel_rfl) (by rfl) ?y628 ?_
    case y628 => intro w hSw; (try dsimp only at hSw); go_simp; all_goals with_reducible rfl
    try simp only [apt12]
    refine tkI 10 ⟨some 14, .indexAddr 25 (.tmp 13) (.const (Go.Value.int .i64 0)), 0, "prim.go:128", #[⟨9, .data⟩], none⟩ ?v629 rfl (by kernel_rfl) (by rfl) ?y629 ?_
    case y629 => intro w hSw; (try dsimp only at hSw); go_simp; all_goals with_reducible rfl
    try simp only [apt12]
    refine tkI 11 ⟨some 15, .load 3 (.tmp 14), 3, "prim.go:128", #[⟨10, .data⟩], none⟩ ?v630 rfl (by kernel_rfl) (by rfl) ?y630 ?_
    case y630 => intro w hSw; (try dsimp only at hSw); go_simp; all_goals with_reducible rfl
    try simp only [apt12]
    refine wpAnyH_ready (rs := [5]) (by kernel_rfl) (by simp) ?_
    refine AllReadyH.cons (i := 5) (o := ⟨some 9, .call { callee := .value (.func 127), args := #[.tmp 8], argTypes := #[3] }, 3, "prim.go:128", #[⟨4, .data⟩], none⟩) rfl (fun K hK => ?_) AllReadyH.nil
    go_simp
    go_at_call 127
    have BB1 : Hid (Below w.heap.size w _) := (Below.refl _ _).drew
    refine (num_no13 hs _).mono ?_
    rintro e u9 ⟨rfl, rfl⟩
    exact ⟨rfl, pr_stop13 BB1.out (by rw [HRR.out, if_pos (.inl hs)]; rfl) (by decide)⟩
  cases ha : nB a0
  · go_enter Tryz.func125, Tryz.ntmps125
    go_upto_region 1 with fail
    refine wp_region_held_drew (S := (fun w' => w'.cell? ⟨b, 0, none⟩ = some (.slice A h.objs.length c) ∧ w'.cell? ⟨b, 1, none⟩ = some (.int .i64 h.cap) ∧ w'.cell? ⟨b, 2, none⟩ = some (.int .i64 h.last) ∧ w'.cell? ⟨b, 3, none⟩ = some (.int .i64 s) ∧ w'.cell? ⟨b, 4, none⟩ = some (.slice (some ⟨p, o, none⟩) args.length da) ∧ w'.cell? ⟨p, o, none⟩ = some (.int .i64 a0) ∧ w'.cell? ⟨kb, 0, none⟩ = some (.func (.func 98) #[] #[]) ∧ Below w.heap.size w w')) (by kernel_rfl) ?_ (fun hH0 => ?_)
    · exact ⟨cell_later (Below.refl w.heap.size w).drew x0, cell_later (Below.refl w.heap.size w).drew x1, cell_later (Below.refl w.heap.size w).drew x2, cell_later (Below.refl w.heap.size w).drew x3, cell_later (Below.refl w.heap.size w).drew x4, cell_later (Below.refl w.heap.size w).drew q0, cell_later (Below.refl w.heap.size w).drew k0, (Below.refl _ _).drew⟩
    refine tkI 0 ⟨some 4, .load 63 (.tmp 1), 63, "prim.go:128", #[], none⟩ ?v631 rfl (by kernel_rfl) (by rfl) ?y631 ?_
    case y631 => intro w hSw; (try dsimp only at hSw); go_simp; all_goals with_reducible rfl
    try simp only [apt12]
    refine tkI 1 ⟨some 5, .move (.tmp 0), 70, "prim.go:128", #[], none⟩ ?v632 rfl (by kernel_rfl) (by rfl) ?y632 ?_
    case y632 => intro w hSw; (try dsimp only at hSw); go_simp; all_goals with_reducible rfl
    try simp only [apt12]
    refine tkI 2 ⟨some 6, .nilCheck (.tmp 5), 0, "prim.go:128", #[⟨1, .data⟩], none⟩ ?v633 rfl (by kernel_rfl) (by rfl) ?y633 ?_
    case y633 => intro w hSw; (try dsimp only at hSw); go_simp; all_goals with_reducible rfl
    try simp only [apt12]
    refine tkI 3 ⟨some 7, .fieldAddr 49 (.tmp 6) 1, 0, "prim.go:128", #[⟨2, .data⟩], none⟩ ?v634 rfl (by kernel_rfl) (by rfl) ?y634 ?_
    case y634 => intro w hSw; (try dsimp only at hSw); go_simp; all_goals with_reducible rfl
    try simp only [apt12]
    refine tkI 4 ⟨some 8, .load 3 (.tmp 7), 3, "prim.go:128", #[⟨3, .data⟩], none⟩ ?v635 rfl (by kernel_rfl) (by rfl) ?y635 ?_
    case y635 => intro w hSw; (try dsimp only at hSw); go_simp; all_goals with_reducible rfl
    try simp only [apt12]
    refine tkI 6 ⟨some 10, .move (.tmp 0), 70, "prim.go:128", #[], none⟩ ?v636 rfl (by kernel_rfl) (by rfl) ?y636 ?_
    case y636 => intro w hSw; (try dsimp only at hSw); go_simp; all_goals with_reducible rfl
    try simp only [apt12]
    refine tkI 7 ⟨some 11, .nilCheck (.tmp 10), 0, "prim.go:128", #[⟨6, .data⟩], none⟩ ?v637 rfl (by kernel_rfl) (by rfl) ?y637 ?_
    case y637 => intro w hSw; (try dsimp only at hSw); go_simp; all_goals with_reducible rfl
    try simp only [apt12]
    refine tkI 8 ⟨some 12, .fieldAddr 49 (.tmp 11) 2, 0, "prim.go:128", #[⟨7, .data⟩], none⟩ ?v638 rfl (by kernel_rfl) (by rfl) ?y638 ?_
    case y638 => intro w hSw; (try dsimp only at hSw); go_simp; all_goals with_reducible rfl
    try simp only [apt12]
    refine tkI 9 ⟨some 13, .load 25 (.tmp 12), 25, "prim.go:128", #[⟨8, .data⟩], none⟩ ?v639 rfl (by kernel_rfl) (by rfl) ?y639 ?_
    case y639 => intro w hSw; (try dsimp only at hSw); go_simp; all_goals with_reducible rfl
    try simp only [apt12]
    refine tkI 10 ⟨some 14, .indexAddr 25 (.tmp 13) (.const (Go.Value.int .i64 0)), 0, "prim.go:128", #[⟨9, .data⟩], none⟩ ?v640 rfl (by kernel_rfl) (by rfl) ?y640 ?_
    case y640 => intro w hSw; (try dsimp only at hSw); go_simp; all_goals with_reducible rfl
    try simp only [apt12]
    refine tkI 11 ⟨some 15, .load 3 (.tmp 14), 3, "prim.go:128", #[⟨10, .data⟩], none⟩ ?v641 rfl (by kernel_rfl) (by rfl) ?y641 ?_
    case y641 => intro w hSw; (try dsimp only at hSw); go_simp; all_goals with_reducible rfl
    try simp only [apt12]
    refine wpAnyH_ready (rs := [5]) (by kernel_rfl) (by simp) ?_
    refine AllReadyH.cons (i := 5) (o := ⟨some 9, .call { callee := .value (.func 127), args := #[.tmp 8], argTypes := #[3] }, 3, "prim.go:128", #[⟨4, .data⟩], none⟩) rfl (fun K hK => ?_) AllReadyH.nil
    go_simp
    go_at_call 127
    have BB1 : Hid (Below w.heap.size w _) := (Below.refl _ _).drew
    refine (num_ok13 hs _).mono ?_
    rintro e u1 ⟨rfl, rfl⟩
    refine hK.out _ _ ?_ (fun hH1 => ?_)
    · exact hH0
    clear hK K
    try simp only [apt12]
    refine wpAnyH_ready (rs := [12]) (by kernel_rfl) (by simp) ?_
    refine AllReadyH.cons (i := 12) (o := ⟨some 16, .call { callee := .value (.func 127), args := #[.tmp 15], argTypes := #[3] }, 3, "prim.go:128", #[⟨11, .data⟩, ⟨5, .chain⟩], none⟩) rfl (fun K hK => ?_) AllReadyH.nil
    go_simp
    go_at_call 127
    have BB2 : Hid (Below w.heap.size w _) := hH1.2.2.2.2.2.2.2
    refine (num_no13 ha _).mono ?_
    rintro e u9 ⟨rfl, rfl⟩
    exact ⟨rfl, pr_stop13 BB2.out (by rw [HRR.out, if_pos (.inr ha)]; rfl) (by decide)⟩
  by_cases h0 : nV a0 = 0
  · go_enter Tryz.func125, Tryz.ntmps125
    go_upto_region 1 with fail
    refine wp_region_held_drew (S := (fun w' => w'.cell? ⟨b, 0, none⟩ = some (.slice A h.objs.length c) ∧ w'.cell? ⟨b, 1, none⟩ = some (.int .i64 h.cap) ∧ w'.cell? ⟨b, 2, none⟩ = some (.int .i64 h.last) ∧ w'.cell? ⟨b, 3, none⟩ = some (.int .i64 s) ∧ w'.cell? ⟨b, 4, none⟩ = some (.slice (some ⟨p, o, none⟩) args.length da) ∧ w'.cell? ⟨p, o, none⟩ = some (.int .i64 a0) ∧ w'.cell? ⟨kb, 0, none⟩ = some (.func (.func 98) #[] #[]) ∧ Below w.heap.size w w')) (by kernel_rfl) ?_ (fun hH0 => ?_)
    · exact ⟨cell_later (Below.refl w.heap.size w).drew x0, cell_later (Below.refl w.heap.size w).drew x1, cell_later (Below.refl w.heap.size w).drew x2, cell_later (Below.refl w.heap.size w).drew x3, cell_later (Below.refl w.heap.size w).drew x4, cell_later (Below.refl w.heap.size w).drew q0, cell_later (Below.refl w.heap.size w).drew k0, (Below.refl _ _).drew⟩
    refine tkI 0 ⟨some 4, .load 63 (.tmp 1), 63, "prim.go:128", #[], none⟩ ?v642 rfl (by kernel_rfl) (by rfl) ?y642 ?_
    case y642 => intro w hSw; (try dsimp only at hSw); go_simp; all_goals with_reducible rfl
    try simp only [apt12]
    refine tkI 1 ⟨some 5, .move (.tmp 0), 70, "prim.go:128", #[], none⟩ ?v643 rfl (by kernel_rfl) (by rfl) ?y643 ?_
    case y643 => intro w hSw; (try dsimp only at hSw); go_simp; all_goals with_reducible rfl
    try simp only [apt12]
    refine tkI 2 ⟨some 6, .nilCheck (.tmp 5), 0, "prim.go:128", #[⟨1, .data⟩], none⟩ ?v644 rfl (by kernel_rfl) (by rfl) ?y644 ?_
    case y644 => intro w hSw; (try dsimp only at hSw); go_simp; all_goals with_reducible rfl
    try simp only [apt12]
    refine tkI 3 ⟨some 7, .fieldAddr 49 (.tmp 6) 1, 0, "prim.go:128", #[⟨2, .data⟩], none⟩ ?v645 rfl (by kernel_rfl) (by rfl) ?y645 ?_
    case y645 => intro w hSw; (try dsimp only at hSw); go_simp; all_goals with_reducible rfl
    try simp only [apt12]
    refine tkI 4 ⟨some 8, .load 3 (.tmp 7), 3, "prim.go:128", #[⟨3, .data⟩], none⟩ ?v646 rfl (by kernel_rfl) (by rfl) ?y646 ?_
    case y646 => intro w hSw; (try dsimp only at hSw); go_simp; all_goals with_reducible rfl
    try simp only [apt12]
    refine tkI 6 ⟨some 10, .move (.tmp 0), 70, "prim.go:128", #[], none⟩ ?v647 rfl (by kernel_rfl) (by rfl) ?y647 ?_
    case y647 => intro w hSw; (try dsimp only at hSw); go_simp; all_goals with_reducible rfl
    try simp only [apt12]
    refine tkI 7 ⟨some 11, .nilCheck (.tmp 10), 0, "prim.go:128", #[⟨6, .data⟩], none⟩ ?v648 rfl (by kernel_rfl) (by rfl) ?y648 ?_
    case y648 => intro w hSw; (try dsimp only at hSw); go_simp; all_goals with_reducible rfl
    try simp only [apt12]
    refine tkI 8 ⟨some 12, .fieldAddr 49 (.tmp 11) 2, 0, "prim.go:128", #[⟨7, .data⟩], none⟩ ?v649 rfl (by kernel_rfl) (by rfl) ?y649 ?_
    case y649 => intro w hSw; (try dsimp only at hSw); go_simp; all_goals with_reducible rfl
    try simp only [apt12]
    refine tkI 9 ⟨some 13, .load 25 (.tmp 12), 25, "prim.go:128", #[⟨8, .data⟩], none⟩ ?v650 rfl (by kernel_rfl) (by rfl) ?y650 ?_
    case y650 => intro w hSw; (try dsimp only at hSw); go_simp; all_goals with_reducible rfl
    try simp only [apt12]
    refine tkI 10 ⟨some 14, .indexAddr 25 (.tmp 13) (.const (Go.Value.int .i64 0)), 0, "prim.go:128", #[⟨9, .data⟩], none⟩ ?v651 rfl (by kernel_rfl) (by rfl) ?y651 ?_
    case y651 => intro w hSw; (try dsimp only at hSw); go_simp; all_goals with_reducible rfl
    try simp only [apt12]
    refine tkI 11 ⟨some 15, .load 3 (.tmp 14), 3, "prim.go:128", #[⟨10, .data⟩], none⟩ ?v652 rfl (by kernel_rfl) (by rfl) ?y652 ?_
    case y652 => intro w hSw; (try dsimp only at hSw); go_simp; all_goals with_reducible rfl
    try simp only [apt12]
    refine wpAnyH_ready (rs := [5]) (by kernel_rfl) (by simp) ?_
    refine AllReadyH.cons (i := 5) (o := ⟨some 9, .call { callee := .value (.func 127), args := #[.tmp 8], argTypes := #[3] }, 3, "prim.go:128", #[⟨4, .data⟩], none⟩) rfl (fun K hK => ?_) AllReadyH.nil
    go_simp
    go_at_call 127
    have BB1 : Hid (Below w.heap.size w _) := (Below.refl _ _).drew
    refine (num_ok13 hs _).mono ?_
    rintro e u1 ⟨rfl, rfl⟩
    refine hK.out _ _ ?_ (fun hH1 => ?_)
    · exact hH0
    clear hK K
    try simp only [apt12]
    refine wpAnyH_ready (rs := [12]) (by kernel_rfl) (by simp) ?_
    refine AllReadyH.cons (i := 12) (o := ⟨some 16, .call { callee := .value (.func 127), args := #[.tmp 15], argTypes := #[3] }, 3, "prim.go:128", #[⟨11, .data⟩, ⟨5, .chain⟩], none⟩) rfl (fun K hK => ?_) AllReadyH.nil
    go_simp
    go_at_call 127
    have BB2 : Hid (Below w.heap.size w _) := hH1.2.2.2.2.2.2.2
    refine (num_ok13 ha _).mono ?_
    rintro e u2 ⟨rfl, rfl⟩
    refine hK.out _ _ ?_ (fun hH2 => ?_)
    · exact hH1
    clear hK K
    try simp only [apt12]
    refine wpAnyH_ready (rs := [13]) (by kernel_rfl) (by simp) ?_
    refine AllReadyH.cons (i := 13) (o := ⟨some 17, .call { callee := .value (.tmp 4), args := #[.tmp 9, .tmp 16], argTypes := #[3, 3] }, 3, "prim.go:128", #[⟨0, .data⟩, ⟨5, .data⟩, ⟨12, .data⟩, ⟨12, .chain⟩], none⟩) rfl (fun K hK => ?_) AllReadyH.nil
    go_simp
    go_at_call 98
    have BB3 : Hid (Below w.heap.size w _) := hH2.2.2.2.2.2.2.2
    refine (quot_no13 _ _).mono ?_
    rintro e u9 ⟨rfl, rfl⟩
    exact ⟨rfl, pr_stop13 BB3.out (by rw [HRR.out, if_neg (by rw [hs, ha]; simp), if_pos h0]; rfl) (by decide)⟩
  cases hq : smB ((nV s).fdiv (nV a0))
  · go_enter Tryz.func125, Tryz.ntmps125
    go_upto_region 1 with fail
    refine wp_region_held_drew (S := (fun w' => w'.cell? ⟨b, 0, none⟩ = some (.slice A h.objs.length c) ∧ w'.cell? ⟨b, 1, none⟩ = some (.int .i64 h.cap) ∧ w'.cell? ⟨b, 2, none⟩ = some (.int .i64 h.last) ∧ w'.cell? ⟨b, 3, none⟩ = some (.int .i64 s) ∧ w'.cell? ⟨b, 4, none⟩ = some (.slice (some ⟨p, o, none⟩) args.length da) ∧ w'.cell? ⟨p, o, none⟩ = some (.int .i64 a0) ∧ w'.cell? ⟨kb, 0, none⟩ = some (.func (.func 98) #[] #[]) ∧ Below w.heap.size w w')) (by kernel_rfl) ?_ (fun hH0 => ?_)
    · exact ⟨cell_later (Below.refl w.heap.size w).drew x0, cell_later (Below.refl w.heap.size w).drew x1, cell_later (Below.refl w.heap.size w).drew x2, cell_later (Below.refl w.heap.size w).drew x3, cell_later (Below.refl w.heap.size w).drew x4, cell_later (Below.refl w.heap.size w).drew q0, cell_later (Below.refl w.heap.size w).drew k0, (Below.refl _ _).drew⟩
    refine tkI 0 ⟨some 4, .load 63 (.tmp 1), 63, "prim.go:128", #[], none⟩ ?v653 rfl (by kernel_rfl) (by rfl) ?y653 ?_
    case y653 => intro w hSw; (try dsimp only at hSw); go_simp; all_goals with_reducible rfl
    try simp only [apt12]
    refine tkI 1 ⟨some 5, .move (.tmp 0), 70, "prim.go:128", #[], none⟩ ?v654 rfl (by kernel_rfl) (by rfl) ?y654 ?_
    case y654 => intro w hSw; (try dsimp only at hSw); go_simp; all_goals with_reducible rfl
    try simp only [apt12]
    refine tkI 2 ⟨some 6, .nilCheck (.tmp 5), 0, "prim.go:128", #[⟨1, .data⟩], none⟩ ?v655 rfl (by kernel_rfl) (by rfl) ?y655 ?_
    case y655 => intro w hSw; (try dsimp only at hSw); go_simp; all_goals with_reducible rfl
    try simp only [apt12]
    refine tkI 3 ⟨some 7, .fieldAddr 49 (.tmp 6) 1, 0, "prim.go:128", #[⟨2, .data⟩], none⟩ ?v656 rfl (by kernel_rfl) (by rfl) ?y656 ?_
    case y656 => intro w hSw; (try dsimp only at hSw); go_simp; all_goals with_reducible rfl
    try simp only [apt12]
    refine tkI 4 ⟨some 8, .load 3 (.tmp 7), 3, "prim.go:128", #[⟨3, .data⟩], none⟩ ?v657 rfl (by kernel_rfl) (by rfl) ?y657 ?_
    case y657 => intro w hSw; (try dsimp only at hSw); go_simp; all_goals with_reducible rfl
    try simp only [apt12]
    refine tkI 6 ⟨some 10, .move (.tmp 0), 70, "prim.go:128", #[], none⟩ ?v658 rfl (by kernel_rfl) (by rfl) ?y658 ?_
    case y658 => intro w hSw; (try dsimp only at hSw); go_simp; all_goals with_reducible rfl
    try simp only [apt12]
    refine tkI 7 ⟨some 11, .nilCheck (.tmp 10), 0, "prim.go:128", #[⟨6, .data⟩], none⟩ ?v659 rfl (by kernel_rfl) (by rfl) ?y659 ?_
    case y659 => intro w hSw; (try dsimp only at hSw); go_simp; all_goals with_reducible rfl
    try simp only [apt12]
    refine tkI 8 ⟨some 12, .fieldAddr 49 (.tmp 11) 2, 0, "prim.go:128", #[⟨7, .data⟩], none⟩ ?v660 rfl (by kernel_rfl) (by rfl) ?y660 ?_
    case y660 => intro w hSw; (try dsimp only at hSw); go_simp; all_goals with_reducible rfl
    try simp only [apt12]
    refine tkI 9 ⟨some 13, .load 25 (.tmp 12), 25, "prim.go:128", #[⟨8, .data⟩], none⟩ ?v661 rfl (by kernel_rfl) (by rfl) ?y661 ?_
    case y661 => intro w hSw; (try dsimp only at hSw); go_simp; all_goals with_reducible rfl
    try simp only [apt12]
    refine tkI 10 ⟨some 14, .indexAddr 25 (.tmp 13) (.const (Go.Value.int .i64 0)), 0, "prim.go:128", #[⟨9, .data⟩], none⟩ ?v662 rfl (by kernel_rfl) (by rfl) ?y662 ?_
    case y662 => intro w hSw; (try dsimp only at hSw); go_simp; all_goals with_reducible rfl
    try simp only [apt12]
    refine tkI 11 ⟨some 15, .load 3 (.tmp 14), 3, "prim.go:128", #[⟨10, .data⟩], none⟩ ?v663 rfl (by kernel_rfl) (by rfl) ?y663 ?_
    case y663 => intro w hSw; (try dsimp only at hSw); go_simp; all_goals with_reducible rfl
    try simp only [apt12]
    refine wpAnyH_ready (rs := [5]) (by kernel_rfl) (by simp) ?_
    refine AllReadyH.cons (i := 5) (o := ⟨some 9, .call { callee := .value (.func 127), args := #[.tmp 8], argTypes := #[3] }, 3, "prim.go:128", #[⟨4, .data⟩], none⟩) rfl (fun K hK => ?_) AllReadyH.nil
    go_simp
    go_at_call 127
    have BB1 : Hid (Below w.heap.size w _) := (Below.refl _ _).drew
    refine (num_ok13 hs _).mono ?_
    rintro e u1 ⟨rfl, rfl⟩
    refine hK.out _ _ ?_ (fun hH1 => ?_)
    · exact hH0
    clear hK K
    try simp only [apt12]
    refine wpAnyH_ready (rs := [12]) (by kernel_rfl) (by simp) ?_
    refine AllReadyH.cons (i := 12) (o := ⟨some 16, .call { callee := .value (.func 127), args := #[.tmp 15], argTypes := #[3] }, 3, "prim.go:128", #[⟨11, .data⟩, ⟨5, .chain⟩], none⟩) rfl (fun K hK => ?_) AllReadyH.nil
    go_simp
    go_at_call 127
    have BB2 : Hid (Below w.heap.size w _) := hH1.2.2.2.2.2.2.2
    refine (num_ok13 ha _).mono ?_
    rintro e u2 ⟨rfl, rfl⟩
    refine hK.out _ _ ?_ (fun hH2 => ?_)
    · exact hH1
    clear hK K
    try simp only [apt12]
    refine wpAnyH_ready (rs := [13]) (by kernel_rfl) (by simp) ?_
    refine AllReadyH.cons (i := 13) (o := ⟨some 17, .call { callee := .value (.tmp 4), args := #[.tmp 9, .tmp 16], argTypes := #[3, 3] }, 3, "prim.go:128", #[⟨0, .data⟩, ⟨5, .data⟩, ⟨12, .data⟩, ⟨12, .chain⟩], none⟩) rfl (fun K hK => ?_) AllReadyH.nil
    go_simp
    go_at_call 98
    have BB3 : Hid (Below w.heap.size w _) := hH2.2.2.2.2.2.2.2
    refine (quot_any13 (n_bd13 hs) (n_bd13 ha) h0 _).mono ?_
    rintro e u3 ⟨rfl, rfl⟩
    refine hK.out _ _ ?_ (fun hH3 => ?_)
    · exact hH2
    clear hK K
    try simp only [apt12]
    refine wpAnyH_ready (rs := [14]) (by kernel_rfl) (by simp) ?_
    refine AllReadyH.cons (i := 14) (o := ⟨some 18, .call { callee := .value (.func 126), args := #[.tmp 17], argTypes := #[3] }, 3, "prim.go:128", #[⟨13, .data⟩, ⟨13, .chain⟩], none⟩) rfl (fun K hK => ?_) AllReadyH.nil
    go_simp
    go_at_call 126
    have BB4 : Hid (Below w.heap.size w _) := hH3.2.2.2.2.2.2.2
    refine (small_no13 hq _).mono ?_
    rintro e u9 ⟨rfl, rfl⟩
    exact ⟨rfl, pr_stop13 BB4.out (by rw [HRR.out, if_neg (by rw [hs, ha]; simp), if_neg h0, in_no13 hq]) (by decide)⟩
  go_enter Tryz.func125, Tryz.ntmps125
  go_upto_region 1 with fail
  refine wp_region_held_drew (S := (fun w' => w'.cell? ⟨b, 0, none⟩ = some (.slice A h.objs.length c) ∧ w'.cell? ⟨b, 1, none⟩ = some (.int .i64 h.cap) ∧ w'.cell? ⟨b, 2, none⟩ = some (.int .i64 h.last) ∧ w'.cell? ⟨b, 3, none⟩ = some (.int .i64 s) ∧ w'.cell? ⟨b, 4, none⟩ = some (.slice (some ⟨p, o, none⟩) args.length da) ∧ w'.cell? ⟨p, o, none⟩ = some (.int .i64 a0) ∧ w'.cell? ⟨kb, 0, none⟩ = some (.func (.func 98) #[] #[]) ∧ Below w.heap.size w w')) (by kernel_rfl) ?_ (fun hH0 => ?_)
  · exact ⟨cell_later (Below.refl w.heap.size w).drew x0, cell_later (Below.refl w.heap.size w).drew x1, cell_later (Below.refl w.heap.size w).drew x2, cell_later (Below.refl w.heap.size w).drew x3, cell_later (Below.refl w.heap.size w).drew x4, cell_later (Below.refl w.heap.size w).drew q0, cell_later (Below.refl w.heap.size w).drew k0, (Below.refl _ _).drew⟩
  refine tkI 0 ⟨some 4, .load 63 (.tmp 1), 63, "prim.go:128", #[], none⟩ ?v664 rfl (by kernel_rfl) (by rfl) ?y664 ?_
  case y664 => intro w hSw; (try dsimp only at hSw); go_simp; all_goals with_reducible rfl
  try simp only [apt12]
  refine tkI 1 ⟨some 5, .move (.tmp 0), 70, "prim.go:128", #[], none⟩ ?v665 rfl (by kernel_rfl) (by rfl) ?y665 ?_
  case y665 => intro w hSw; (try dsimp only at hSw); go_simp; all_goals with_reducible rfl
  try simp only [apt12]
  refine tkI 2 ⟨some 6, .nilCheck (.tmp 5), 0, "prim.go:128", #[⟨1, .data⟩], none⟩ ?v666 rfl (by kernel_rfl) (by rfl) ?y666 ?_
  case y666 => intro w hSw; (try dsimp only at hSw); go_simp; all_goals with_reducible rfl
  try simp only [apt12]
  refine tkI 3 ⟨some 7, .fieldAddr 49 (.tmp 6) 1, 0, "prim.go:128", #[⟨2, .data⟩], none⟩ ?v667 rfl (by kernel_rfl) (by rfl) ?y667 ?_
  case y667 => intro w hSw; (try dsimp only at hSw); go_simp; all_goals with_reducible rfl
  try simp only [apt12]
  refine tkI 4 ⟨some 8, .load 3 (.tmp 7), 3, "prim.go:128", #[⟨3, .data⟩], none⟩ ?v668 rfl (by kernel_rfl) (by rfl) ?y668 ?_
  case y668 => intro w hSw; (try dsimp only at hSw); go_simp; all_goals with_reducible rfl
  try simp only [apt12]
  refine tkI 6 ⟨some 10, .move (.tmp 0), 70, "prim.go:128", #[], none⟩ ?v669 rfl (by kernel_rfl) (by rfl) ?y669 ?_
  case y669 => intro w hSw; (try dsimp only at hSw); go_simp; all_goals with_reducible rfl
  try simp only [apt12]
  refine tkI 7 ⟨some 11, .nilCheck (.tmp 10), 0, "prim.go:128", #[⟨6, .data⟩], none⟩ ?v670 rfl (by kernel_rfl) (by rfl) ?y670 ?_
  case y670 => intro w hSw; (try dsimp only at hSw); go_simp; all_goals with_reducible rfl
  try simp only [apt12]
  refine tkI 8 ⟨some 12, .fieldAddr 49 (.tmp 11) 2, 0, "prim.go:128", #[⟨7, .data⟩], none⟩ ?v671 rfl (by kernel_rfl) (by rfl) ?y671 ?_
  case y671 => intro w hSw; (try dsimp only at hSw); go_simp; all_goals with_reducible rfl
  try simp only [apt12]
  refine tkI 9 ⟨some 13, .load 25 (.tmp 12), 25, "prim.go:128", #[⟨8, .data⟩], none⟩ ?v672 rfl (by kernel_rfl) (by rfl) ?y672 ?_
  case y672 => intro w hSw; (try dsimp only at hSw); go_simp; all_goals with_reducible rfl
  try simp only [apt12]
  refine tkI 10 ⟨some 14, .indexAddr 25 (.tmp 13) (.const (Go.Value.int .i64 0)), 0, "prim.go:128", #[⟨9, .data⟩], none⟩ ?v673 rfl (by kernel_rfl) (by rfl) ?y673 ?_
  case y673 => intro w hSw; (try dsimp only at hSw); go_simp; all_goals with_reducible rfl
  try simp only [apt12]
  refine tkI 11 ⟨some 15, .load 3 (.tmp 14), 3, "prim.go:128", #[⟨10, .data⟩], none⟩ ?v674 rfl (by kernel_rfl) (by rfl) ?y674 ?_
  case y674 => intro w hSw; (try dsimp only at hSw); go_simp; all_goals with_reducible rfl
  try simp only [apt12]
  refine wpAnyH_ready (rs := [5]) (by kernel_rfl) (by simp) ?_
  refine AllReadyH.cons (i := 5) (o := ⟨some 9, .call { callee := .value (.func 127), args := #[.tmp 8], argTypes := #[3] }, 3, "prim.go:128", #[⟨4, .data⟩], none⟩) rfl (fun K hK => ?_) AllReadyH.nil
  go_simp
  go_at_call 127
  have BB1 : Hid (Below w.heap.size w _) := (Below.refl _ _).drew
  refine (num_ok13 hs _).mono ?_
  rintro e u1 ⟨rfl, rfl⟩
  refine hK.out _ _ ?_ (fun hH1 => ?_)
  · exact hH0
  clear hK K
  try simp only [apt12]
  refine wpAnyH_ready (rs := [12]) (by kernel_rfl) (by simp) ?_
  refine AllReadyH.cons (i := 12) (o := ⟨some 16, .call { callee := .value (.func 127), args := #[.tmp 15], argTypes := #[3] }, 3, "prim.go:128", #[⟨11, .data⟩, ⟨5, .chain⟩], none⟩) rfl (fun K hK => ?_) AllReadyH.nil
  go_simp
  go_at_call 127
  have BB2 : Hid (Below w.heap.size w _) := hH1.2.2.2.2.2.2.2
  refine (num_ok13 ha _).mono ?_
  rintro e u2 ⟨rfl, rfl⟩
  refine hK.out _ _ ?_ (fun hH2 => ?_)
  · exact hH1
  clear hK K
  try simp only [apt12]
  refine wpAnyH_ready (rs := [13]) (by kernel_rfl) (by simp) ?_
  refine AllReadyH.cons (i := 13) (o := ⟨some 17, .call { callee := .value (.tmp 4), args := #[.tmp 9, .tmp 16], argTypes := #[3, 3] }, 3, "prim.go:128", #[⟨0, .data⟩, ⟨5, .data⟩, ⟨12, .data⟩, ⟨12, .chain⟩], none⟩) rfl (fun K hK => ?_) AllReadyH.nil
  go_simp
  go_at_call 98
  have BB3 : Hid (Below w.heap.size w _) := hH2.2.2.2.2.2.2.2
  refine (quot_any13 (n_bd13 hs) (n_bd13 ha) h0 _).mono ?_
  rintro e u3 ⟨rfl, rfl⟩
  refine hK.out _ _ ?_ (fun hH3 => ?_)
  · exact hH2
  clear hK K
  try simp only [apt12]
  refine wpAnyH_ready (rs := [14]) (by kernel_rfl) (by simp) ?_
  refine AllReadyH.cons (i := 14) (o := ⟨some 18, .call { callee := .value (.func 126), args := #[.tmp 17], argTypes := #[3] }, 3, "prim.go:128", #[⟨13, .data⟩, ⟨13, .chain⟩], none⟩) rfl (fun K hK => ?_) AllReadyH.nil
  go_simp
  go_at_call 126
  have BB4 : Hid (Below w.heap.size w _) := hH3.2.2.2.2.2.2.2
  refine (small_ok13 hq _).mono ?_
  rintro e u4 ⟨rfl, rfl⟩
  refine hK.out _ _ ?_ (fun hH4 => ?_)
  · exact hH3
  clear hK K
  try simp only [apt12]
  refine tkI 15 ⟨some 3, .assign (.tmp 18), 3, "prim.go:128", #[⟨14, .data⟩, ⟨14, .chain⟩, ⟨0, .phase⟩, ⟨1, .phase⟩, ⟨2, .phase⟩, ⟨3, .phase⟩, ⟨4, .phase⟩, ⟨5, .phase⟩, ⟨6, .phase⟩, ⟨7, .phase⟩, ⟨8, .phase⟩, ⟨9, .phase⟩, ⟨10, .phase⟩, ⟨11, .phase⟩, ⟨12, .phase⟩, ⟨13, .phase⟩, ⟨14, .phase⟩], none⟩ ?v675 rfl (by kernel_rfl) (by rfl) ?y675 ?_
  case y675 => intro w hSw; (try dsimp only at hSw); go_simp; all_goals with_reducible rfl
  try simp only [apt12]
  refine wpAnyH_done (by kernel_rfl) ?_ _
  go_wp2_with fail
  go_ret
  exact pr_keep13 HI.out (hH4.2.2.2.2.2.2.2) (by rw [HRR.out, if_neg (by rw [hs, ha]; simp), if_neg h0, in_ok13 hq])
set_option maxHeartbeats 1000000 in
theorem ofrest_any13 (b base : Nat) (h : Hp) (A : Option Addr) (c : Nat) (s : Int) (args : List Int) (SA : Option Addr) (da : Nat) (w : World) (I : In13 w b base h A c s args SA da) (hn : 0 < args.length) (kb : Nat) (hk : w.cell? ⟨kb, 0, none⟩ = some (.func (.func 99) #[] #[])) (hkb : kb ≠ b) :
    Calls Tryz.prog 125 #[.pointer (some ⟨b, 0, none⟩), .pointer (some ⟨kb, 0, none⟩)] w (Po13 w b h A c s args.length SA da (if nB s = false ∨ nB (args.getD 0 0) = false then fa13 h else if nV (args.getD 0 0) = 0 then fa13 h else in13 h (nV s - nV (args.getD 0 0) * (nV s).fdiv (nV (args.getD 0 0))))) := by
  obtain ⟨a0, ha0⟩ : ∃ a, a = args.getD 0 0 := ⟨_, rfl⟩
  rw [← ha0]
  have HI := hid I
  have HLA := hid (fun k => has_arg13 I.hall (k := k))
  obtain ⟨p, o, hSA, q0, hpb⟩ := I.arg (k := 0) (by omega)
  subst hSA
  rw [← ha0] at q0
  simp only [Nat.add_zero] at q0
  have hn0 : 0 < args.length := by omega
  have hn0I : (0 : Int) < (args.length : Int) := by omega
  have HPB := hid hpb
  obtain ⟨x0, x1, x2, x3, x4⟩ := I.box.c5
  have HA0 := hid ha0
  clear I hpb ha0
  have k0 := hk
  clear hk hkb
  obtain ⟨rr, hrr⟩ : ∃ r : Rs, r = (if nB s = false ∨ nB a0 = false then fa13 h else if nV a0 = 0 then fa13 h else in13 h (nV s - nV a0 * (nV s).fdiv (nV a0))) := ⟨_, rfl⟩
  rw [← hrr]
  have HRR := hid hrr
  clear hrr
  cases hs : nB s
  · go_enter Tryz.func125, Tryz.ntmps125
    go_upto_region 1 with fail
    refine wp_region_held_drew (S := (fun w' => w'.cell? ⟨b, 0, none⟩ = some (.slice A h.objs.length c) ∧ w'.cell? ⟨b, 1, none⟩ = some (.int .i64 h.cap) ∧ w'.cell? ⟨b, 2, none⟩ = some (.int .i64 h.last) ∧ w'.cell? ⟨b, 3, none⟩ = some (.int .i64 s) ∧ w'.cell? ⟨b, 4, none⟩ = some (.slice (some ⟨p, o, none⟩) args.length da) ∧ w'.cell? ⟨p, o, none⟩ = some (.int .i64 a0) ∧ w'.cell? ⟨kb, 0, none⟩ = some (.func (.func 99) #[] #[]) ∧ Below w.heap.size w w')) (by kernel_rfl) ?_ (fun hH0 => ?_)
    · exact ⟨cell_later (Below.refl w.heap.size w).drew x0, cell_later (Below.refl w.heap.size w).drew x1, cell_later (Below.refl w.heap.size w).drew x2, cell_later (Below.refl w.heap.size w).drew x3, cell_later (Below.refl w.heap.size w).drew x4, cell_later (Below.refl w.heap.size w).drew q0, cell_later (Below.refl w.heap.size w).drew k0, (Below.refl _ _).drew⟩
    refine tkI 0 ⟨some 4, .load 63 (.tmp 1), 63, "prim.go:128", #[], none⟩ ?v676 rfl (by kernel_rfl) (by rfl) ?y676 ?_
    case y676 => intro w hSw; (try dsimp only at hSw); go_simp; all_goals with_reducible rfl
    try simp only [apt12]
    refine tkI 1 ⟨some 5, .move (.tmp 0), 70, "prim.go:128", #[], none⟩ ?v677 rfl (by kernel_rfl) (by rfl) ?y677 ?_
    case y677 => intro w hSw; (try dsimp only at hSw); go_simp; all_goals with_reducible rfl
    try simp only [apt12]
    refine tkI 2 ⟨some 6, .nilCheck (.tmp 5), 0, "prim.go:128", #[⟨1, .data⟩], none⟩ ?v678 rfl (by kernel_rfl) (by rfl) ?y678 ?_
    case y678 => intro w hSw; (try dsimp only at hSw); go_simp; all_goals with_reducible rfl
    try simp only [apt12]
    refine tkI 3 ⟨some 7, .fieldAddr 49 (.tmp 6) 1, 0, "prim.go:128", #[⟨2, .data⟩], none⟩ ?v679 rfl (by kernel_rfl) (by rfl) ?y679 ?_
    case y679 => intro w hSw; (try dsimp only at hSw); go_simp; all_goals with_reducible rfl
    try simp only [apt12]
    refine tkI 4 ⟨some 8, .load 3 (.tmp 7), 3, "prim.go:128", #[⟨3, .data⟩], none⟩ ?v680 rfl (by kernel_rfl) (by rfl) ?y680 ?_
    case y680 => intro w hSw; (try dsimp only at hSw); go_simp; all_goals with_reducible rfl
    try simp only [apt12]
    refine tkI 6 ⟨some 10, .move (.tmp 0), 70, "prim.go:128", #[], none⟩ ?v681 rfl (by kernel_rfl) (by rfl) ?y681 ?_
    case y681 => intro w hSw; (try dsimp only at hSw); go_simp; all_goals with_reducible rfl
    try simp only [apt12]
    refine tkI 7 ⟨some 11, .nilCheck (.tmp 10), 0, "prim.go:128", #[⟨6, .data⟩], none⟩ ?v682 rfl (by kernel_rfl) (by rfl) ?y682 ?_
    case y682 => intro w hSw; (try dsimp only at hSw); go_simp; all_goals with_reducible rfl
    try simp only [apt12]
    refine tkI 8 ⟨some 12, .fieldAddr 49 (.tmp 11) 2, 0, "prim.go:128", #[⟨7, .data⟩], none⟩ ?v683 rfl (by kernel_rfl) (by rfl) ?y683 ?_
    case y683 => intro w hSw; (try dsimp only at hSw); go_simp; all_goals with_reducible rfl
    try simp only [apt12]
    refine tkI 9 ⟨some 13, .load 25 (.tmp 12), 25, "prim.go:128", #[⟨8, .data⟩], none⟩ ?v684 rfl (by kernel_rfl) (by rfl) ?y684 ?_
    case y684 => intro w hSw; (try dsimp only at hSw); go_simp; all_goals with_reducible rfl
    try simp only [apt12]
    refine tkI 10 ⟨some 14, .indexAddr 25 (.tmp 13) (.const (Go.Value.int .i64 0)), 0, "prim.go:128", #[⟨9, .data⟩], none⟩ ?v685 rfl (by kernel_rfl) (by rfl) ?y685 ?_
    case y685 => intro w hSw; (try dsimp only at hSw); go_simp; all_goals with_reducible rfl
    try simp only [apt12]
    refine tkI 11 ⟨some 15, .load 3 (.tmp 14), 3, "prim.go:128", #[⟨10, .data⟩], none⟩ ?v686 rfl (by kernel_rfl) (by rfl) ?y686 ?_
    case y686 => intro w hSw; (try dsimp only at hSw); go_simp; all_goals with_reducible rfl
    try simp only [apt12]
    refine wpAnyH_ready (rs := [5]) (by kernel_rfl) (by simp) ?_
    refine AllReadyH.cons (i := 5) (o := ⟨some 9, .call { callee := .value (.func 127), args := #[.tmp 8], argTypes := #[3] }, 3, "prim.go:128", #[⟨4, .data⟩], none⟩) rfl (fun K hK => ?_) AllReadyH.nil
    go_simp
    go_at_call 127
    have BB1 : Hid (Below w.heap.size w _) := (Below.refl _ _).drew
    refine (num_no13 hs _).mono ?_
    rintro e u9 ⟨rfl, rfl⟩
    exact ⟨rfl, pr_stop13 BB1.out (by rw [HRR.out, if_pos (.inl hs)]; rfl) (by decide)⟩
  cases ha : nB a0
  · go_enter Tryz.func125, Tryz.ntmps125
    go_upto_region 1 with fail
    refine wp_region_held_drew (S := (fun w' => w'.cell? ⟨b, 0, none⟩ = some (.slice A h.objs.length c) ∧ w'.cell? ⟨b, 1, none⟩ = some (.int .i64 h.cap) ∧ w'.cell? ⟨b, 2, none⟩ = some (.int .i64 h.last) ∧ w'.cell? ⟨b, 3, none⟩ = some (.int .i64 s) ∧ w'.cell? ⟨b, 4, none⟩ = some (.slice (some ⟨p, o, none⟩) args.length da) ∧ w'.cell? ⟨p, o, none⟩ = some (.int .i64 a0) ∧ w'.cell? ⟨kb, 0, none⟩ = some (.func (.func 99) #[] #[]) ∧ Below w.heap.size w w')) (by kernel_rfl) ?_ (fun hH0 => ?_)
    · exact ⟨cell_later (Below.refl w.heap.size w).drew x0, cell_later (Below.refl w.heap.size w).drew x1, cell_later (Below.refl w.heap.size w).drew x2, cell_later (Below.refl w.heap.size w).drew x3, cell_later (Below.refl w.heap.size w).drew x4, cell_later (Below.refl w.heap.size w).drew q0, cell_later (Below.refl w.heap.size w).drew k0, (Below.refl _ _).drew⟩
    refine tkI 0 ⟨some 4, .load 63 (.tmp 1), 63, "prim.go:128", #[], none⟩ ?v687 rfl (by kernel_rfl) (by rfl) ?y687 ?_
    case y687 => intro w hSw; (try dsimp only at hSw); go_simp; all_goals with_reducible rfl
    try simp only [apt12]
    refine tkI 1 ⟨some 5, .move (.tmp 0), 70, "prim.go:128", #[], none⟩ ?v688 rfl (by kernel_rfl) (by rfl) ?y688 ?_
    case y688 => intro w hSw; (try dsimp only at hSw); go_simp; all_goals with_reducible rfl
    try simp only [apt12]
    refine tkI 2 ⟨some 6, .nilCheck (.tmp 5), 0, "prim.go:128", #[⟨1, .data⟩], none⟩ ?v689 rfl (by kernel_rfl) (by rfl) ?y689 ?_
    case y689 => intro w hSw; (try dsimp only at hSw); go_simp; all_goals with_reducible rfl
    try simp only [apt12]
    refine tkI 3 ⟨some 7, .fieldAddr 49 (.tmp 6) 1, 0, "prim.go:128", #[⟨2, .data⟩], none⟩ ?v690 rfl (by kernel_rfl) (by rfl) ?y690 ?_
    case y690 => intro w hSw; (try dsimp only at hSw); go_simp; all_goals with_reducible rfl
    try simp only [apt12]
    refine tkI 4 ⟨some 8, .load 3 (.tmp 7), 3, "prim.go:128", #[⟨3, .data⟩], none⟩ ?v691 rfl (by kernel_rfl) (by rfl) ?y691 ?_
    case y691 => intro w hSw; (try dsimp only at hSw); go_simp; all_goals with_reducible rfl
    try simp only [apt12]
    refine tkI 6 ⟨some 10, .move (.tmp 0), 70, "prim.go:128", #[], none⟩ ?v692 rfl (by kernel_rfl) (by rfl) ?y692 ?_
    case y692 => intro w hSw; (try dsimp only at hSw); go_simp; all_goals with_reducible rfl
    try simp only [apt12]
    refine tkI 7 ⟨some 11, .nilCheck (.tmp 10), 0, "prim.go:128", #[⟨6, .data⟩], none⟩ ?v693 rfl (by kernel_rfl) (by rfl) ?y693 ?_
    case y693 => intro w hSw; (try dsimp only at hSw); go_simp; all_goals with_reducible rfl
    try simp only [apt12]
    refine tkI 8 ⟨some 12, .fieldAddr 49 (.tmp 11) 2, 0, "prim.go:128", #[⟨7, .data⟩], none⟩ ?v694 rfl (by kernel_rfl) (by rfl) ?y694 ?_
    case y694 => intro w hSw; (try dsimp only at hSw); go_simp; all_goals with_reducible rfl
    try simp only [apt12]
    refine tkI 9 ⟨some 13, .load 25 (.tmp 12), 25, "prim.go:128", #[⟨8, .data⟩], none⟩ ?v695 rfl (by kernel_rfl) (by rfl) ?y695 ?_
    case y695 => intro w hSw; (try dsimp only at hSw); go_simp; all_goals with_reducible rfl
    try simp only [apt12]
    refine tkI 10 ⟨some 14, .indexAddr 25 (.tmp 13) (.const (Go.Value.int .i64 0)), 0, "prim.go:128", #[⟨9, .data⟩], none⟩ ?v696 rfl (by kernel_rfl) (by rfl) ?y696 ?_
    case y696 => intro w hSw; (try dsimp only at hSw); go_simp; all_goals with_reducible rfl
    try simp only [apt12]
    refine tkI 11 ⟨some 15, .load 3 (.tmp 14), 3, "prim.go:128", #[⟨10, .data⟩], none⟩ ?v697 rfl (by kernel_rfl) (by rfl) ?y697 ?_
    case y697 => intro w hSw; (try dsimp only at hSw); go_simp; all_goals with_reducible rfl
    try simp only [apt12]
    refine wpAnyH_ready (rs := [5]) (by kernel_rfl) (by simp) ?_
    refine AllReadyH.cons (i := 5) (o := ⟨some 9, .call { callee := .value (.func 127), args := #[.tmp 8], argTypes := #[3] }, 3, "prim.go:128", #[⟨4, .data⟩], none⟩) rfl (fun K hK => ?_) AllReadyH.nil
    go_simp
    go_at_call 127
    have BB1 : Hid (Below w.heap.size w _) := (Below.refl _ _).drew
    refine (num_ok13 hs _).mono ?_
    rintro e u1 ⟨rfl, rfl⟩
    refine hK.out _ _ ?_ (fun hH1 => ?_)
    · exact hH0
    clear hK K
    try simp only [apt12]
    refine wpAnyH_ready (rs := [12]) (by kernel_rfl) (by simp) ?_
    refine AllReadyH.cons (i := 12) (o := ⟨some 16, .call { callee := .value (.func 127), args := #[.tmp 15], argTypes := #[3] }, 3, "prim.go:128", #[⟨11, .data⟩, ⟨5, .chain⟩], none⟩) rfl (fun K hK => ?_) AllReadyH.nil
    go_simp
    go_at_call 127
    have BB2 : Hid (Below w.heap.size w _) := hH1.2.2.2.2.2.2.2
    refine (num_no13 ha _).mono ?_
    rintro e u9 ⟨rfl, rfl⟩
    exact ⟨rfl, pr_stop13 BB2.out (by rw [HRR.out, if_pos (.inr ha)]; rfl) (by decide)⟩
  by_cases h0 : nV a0 = 0
  · go_enter Tryz.func125, Tryz.ntmps125
    go_upto_region 1 with fail
    refine wp_region_held_drew (S := (fun w' => w'.cell? ⟨b, 0, none⟩ = some (.slice A h.objs.length c) ∧ w'.cell? ⟨b, 1, none⟩ = some (.int .i64 h.cap) ∧ w'.cell? ⟨b, 2, none⟩ = some (.int .i64 h.last) ∧ w'.cell? ⟨b, 3, none⟩ = some (.int .i64 s) ∧ w'.cell? ⟨b, 4, none⟩ = some (.slice (some ⟨p, o, none⟩) args.length da) ∧ w'.cell? ⟨p, o, none⟩ = some (.int .i64 a0) ∧ w'.cell? ⟨kb, 0, none⟩ = some (.func (.func 99) #[] #[]) ∧ Below w.heap.size w w')) (by kernel_rfl) ?_ (fun hH0 => ?_)
    · exact ⟨cell_later (Below.refl w.heap.size w).drew x0, cell_later (Below.refl w.heap.size w).drew x1, cell_later (Below.refl w.heap.size w).drew x2, cell_later (Below.refl w.heap.size w).drew x3, cell_later (Below.refl w.heap.size w).drew x4, cell_later (Below.refl w.heap.size w).drew q0, cell_later (Below.refl w.heap.size w).drew k0, (Below.refl _ _).drew⟩
    refine tkI 0 ⟨some 4, .load 63 (.tmp 1), 63, "prim.go:128", #[], none⟩ ?v698 rfl (by kernel_rfl) (by rfl) ?y698 ?_
    case y698 => intro w hSw; (try dsimp only at hSw); go_simp; all_goals with_reducible rfl
    try simp only [apt12]
    refine tkI 1 ⟨some 5, .move (.tmp 0), 70, "prim.go:128", #[], none⟩ ?v699 rfl (by kernel_rfl) (by rfl) ?y699 ?_
    case y699 => intro w hSw; (try dsimp only at hSw); go_simp; all_goals with_reducible rfl
    try simp only [apt12]
    refine tkI 2 ⟨some 6, .nilCheck (.tmp 5), 0, "prim.go:128", #[⟨1, .data⟩], none⟩ ?v700 rfl (by kernel_rfl) (by rfl) ?y700 ?_
    case y700 => intro w hSw; (try dsimp only at hSw); go_simp; all_goals with_reducible rfl
    try simp only [apt12]
    refine tkI 3 ⟨some 7, .fieldAddr 49 (.tmp 6) 1, 0, "prim.go:128", #[⟨2, .data⟩], none⟩ ?v701 rfl (by kernel_rfl) (by rfl) ?y701 ?_
    case y701 => intro w hSw; (try dsimp only at hSw); go_simp; all_goals with_reducible rfl
    try simp only [apt12]
    refine tkI 4 ⟨some 8, .load 3 (.tmp 7), 3, "prim.go:128", #[⟨3, .data⟩], none⟩ ?v702 rfl (by kernel_rfl) (by rfl) ?y702 ?_
    case y702 => intro w hSw; (try dsimp only at hSw); go_simp; all_goals with_reducible rfl
    try simp only [apt12]
    refine tkI 6 ⟨some 10, .move (.tmp 0), 70, "prim.go:128", #[], none⟩ ?v703 rfl (by kernel_rfl) (by rfl) ?y703 ?_
    case y703 => intro w hSw; (try dsimp only at hSw); go_simp; all_goals with_reducible rfl
    try simp only [apt12]
    refine tkI 7 ⟨some 11, .nilCheck (.tmp 10), 0, "prim.go:128", #[⟨6, .data⟩], none⟩ ?v704 rfl (by kernel_rfl) (by rfl) ?y704 ?_
    case y704 => intro w hSw; (try dsimp only at hSw); go_simp; all_goals with_reducible rfl
    try simp only [apt12]
    refine tkI 8 ⟨some 12, .fieldAddr 49 (.tmp 11) 2, 0, "prim.go:128", #[⟨7, .data⟩], none⟩ ?v705 rfl (by kernel_rfl) (by rfl) ?y705 ?_
    case y705 => intro w hSw; (try dsimp only at hSw); go_simp; all_goals with_reducible rfl
    try simp only [apt12]
    refine tkI 9 ⟨some 13, .load 25 (.tmp 12), 25, "prim.go:128", #[⟨8, .data⟩], none⟩ ?v706 rfl (by kernel_rfl) (by rfl) ?y706 ?_
    case y706 => intro w hSw; (try dsimp only at hSw); go_simp; all_goals with_reducible rfl
    try simp only [apt12]
    refine tkI 10 ⟨some 14, .indexAddr 25 (.tmp 13) (.const (Go.Value.int .i64 0)), 0, "prim.go:128", #[⟨9, .data⟩], none⟩ ?v707 rfl (by kernel_rfl) (by rfl) ?y707 ?_
    case y707 => intro w hSw; (try dsimp only at hSw); go_simp; all_goals with_reducible rfl
    try simp only [apt12]
    refine tkI 11 ⟨some 15, .load 3 (.tmp 14), 3, "prim.go:128", #[⟨10, .data⟩], none⟩ ?v708 rfl (by kernel_rfl) (by rfl) ?y708 ?_
    case y708 => intro w hSw; (try dsimp only at hSw); go_simp; all_goals with_reducible rfl
    try simp only [apt12]
    refine wpAnyH_ready (rs := [5]) (by kernel_rfl) (by simp) ?_
    refine AllReadyH.cons (i := 5) (o := ⟨some 9, .call { callee := .value (.func 127), args := #[.tmp 8], argTypes := #[3] }, 3, "prim.go:128", #[⟨4, .data⟩], none⟩) rfl (fun K hK => ?_) AllReadyH.nil
    go_simp
    go_at_call 127
    have BB1 : Hid (Below w.heap.size w _) := (Below.refl _ _).drew
    refine (num_ok13 hs _).mono ?_
    rintro e u1 ⟨rfl, rfl⟩
    refine hK.out _ _ ?_ (fun hH1 => ?_)
    · exact hH0
    clear hK K
    try simp only [apt12]
    refine wpAnyH_ready (rs := [12]) (by kernel_rfl) (by simp) ?_
    refine AllReadyH.cons (i := 12) (o := ⟨some 16, .call { callee := .value (.func 127), args := #[.tmp 15], argTypes := #[3] }, 3, "prim.go:128", #[⟨11, .data⟩, ⟨5, .chain⟩], none⟩) rfl (fun K hK => ?_) AllReadyH.nil
    go_simp
    go_at_call 127
    have BB2 : Hid (Below w.heap.size w _) := hH1.2.2.2.2.2.2.2
    refine (num_ok13 ha _).mono ?_
    rintro e u2 ⟨rfl, rfl⟩
    refine hK.out _ _ ?_ (fun hH2 => ?_)
    · exact hH1
    clear hK K
    try simp only [apt12]
    refine wpAnyH_ready (rs := [13]) (by kernel_rfl) (by simp) ?_
    refine AllReadyH.cons (i := 13) (o := ⟨some 17, .call { callee := .value (.tmp 4), args := #[.tmp 9, .tmp 16], argTypes := #[3, 3] }, 3, "prim.go:128", #[⟨0, .data⟩, ⟨5, .data⟩, ⟨12, .data⟩, ⟨12, .chain⟩], none⟩) rfl (fun K hK => ?_) AllReadyH.nil
    go_simp
    go_at_call 99
    have BB3 : Hid (Below w.heap.size w _) := hH2.2.2.2.2.2.2.2
    refine (rest_no13 _ _).mono ?_
    rintro e u9 ⟨rfl, rfl⟩
    exact ⟨rfl, pr_stop13 BB3.out (by rw [HRR.out, if_neg (by rw [hs, ha]; simp), if_pos h0]; rfl) (by decide)⟩
  cases hq : smB (nV s - nV a0 * (nV s).fdiv (nV a0))
  · go_enter Tryz.func125, Tryz.ntmps125
    go_upto_region 1 with fail
    refine wp_region_held_drew (S := (fun w' => w'.cell? ⟨b, 0, none⟩ = some (.slice A h.objs.length c) ∧ w'.cell? ⟨b, 1, none⟩ = some (.int .i64 h.cap) ∧ w'.cell? ⟨b, 2, none⟩ = some (.int .i64 h.last) ∧ w'.cell? ⟨b, 3, none⟩ = some (.int .i64 s) ∧ w'.cell? ⟨b, 4, none⟩ = some (.slice (some ⟨p, o, none⟩) args.length da) ∧ w'.cell? ⟨p, o, none⟩ = some (.int .i64 a0) ∧ w'.cell? ⟨kb, 0, none⟩ = some (.func (.func 99) #[] #[]) ∧ Below w.heap.size w w')) (by kernel_rfl) ?_ (fun hH0 => ?_)
    · exact ⟨cell_later (Below.refl w.heap.size w).drew x0, cell_later (Below.refl w.heap.size w).drew x1, cell_later (Below.refl w.heap.size w).drew x2, cell_later (Below.refl w.heap.size w).drew x3, cell_later (Below.refl w.heap.size w).drew x4, cell_later (Below.refl w.heap.size w).drew q0, cell_later (Below.refl w.heap.size w).drew k0, (Below.refl _ _).drew⟩
    refine tkI 0 ⟨some 4, .load 63 (.tmp 1), 63, "prim.go:128", #[], none⟩ ?v709 rfl (by kernel_rfl) (by rfl) ?y709 ?_
    case y709 => intro w hSw; (try dsimp only at hSw); go_simp; all_goals with_reducible rfl
    try simp only [apt12]
    refine tkI 1 ⟨some 5, .move (.tmp 0), 70, "prim.go:128", #[], none⟩ ?v710 rfl (by kernel_rfl) (by rfl) ?y710 ?_
    case y710 => intro w hSw; (try dsimp only at hSw); go_simp; all_goals with_reducible rfl
    try simp only [apt12]
    refine tkI 2 ⟨some 6, .nilCheck (.tmp 5), 0, "prim.go:128", #[⟨1, .data⟩], none⟩ ?v711 rfl (by kernel_rfl) (by rfl) ?y711 ?_
    case y711 => intro w hSw; (try dsimp only at hSw); go_simp; all_goals with_reducible rfl
    try simp only [apt12]
    refine tkI 3 ⟨some 7, .fieldAddr 49 (.tmp 6) 1, 0, "prim.go:128", #[⟨2, .data⟩], none⟩ ?v712 rfl (by kernel_rfl) (by rfl) ?y712 ?_
    case y712 => intro w hSw; (try dsimp only at hSw); go_simp; all_goals with_reducible rfl
    try simp only [apt12]
    refine tkI 4 ⟨some 8, .load 3 (.tmp 7), 3, "prim.go:128", #[⟨3, .data⟩], none⟩ ?v713 rfl (by kernel_rfl) (by rfl) ?y713 ?_
    case y713 => intro w hSw; (try dsimp only at hSw); go_simp; all_goals with_reducible rfl
    try simp only [apt12]
    refine tkI 6 ⟨some 10, .move (.tmp 0), 70, "prim.go:128", #[], none⟩ ?v714 rfl (by kernel_rfl) (by rfl) ?y714 ?_
    case y714 => intro w hSw; (try dsimp only at hSw); go_simp; all_goals with_reducible rfl
    try simp only [apt12]
    refine tkI 7 ⟨some 11, .nilCheck (.tmp 10), 0, "prim.go:128", #[⟨6, .data⟩], none⟩ ?v715 rfl (by kernel_rfl) (by rfl) ?y715 ?_
    case y715 => intro w hSw; (try dsimp only at hSw); go_simp; all_goals with_reducible rfl
    try simp only [apt12]
    refine tkI 8 ⟨some 12, .fieldAddr 49 (.tmp 11) 2, 0, "prim.go:128", #[⟨7, .data⟩], none⟩ ?v716 rfl (by kernel_rfl) (by rfl) ?y716 ?_
    case y716 => intro w hSw; (try dsimp only at hSw); go_simp; all_goals with_reducible rfl
    try simp only [apt12]
    refine tkI 9 ⟨some 13, .load 25 (.tmp 12), 25, "prim.go:128", #[⟨8, .data⟩], none⟩ ?v717 rfl (by kernel_rfl) (by rfl) ?y717 ?_
    case y717 => intro w hSw; (try dsimp only at hSw); go_simp; all_goals with_reducible rfl
    try simp only [apt12]
    refine tkI 10 ⟨some 14, .indexAddr 25 (.tmp 13) (.const (Go.Value.int .i64 0)), 0, "prim.go:128", #[⟨9, .data⟩], none⟩ ?v718 rfl (by kernel_rfl) (by rfl) ?y718 ?_
    case y718 => intro w hSw; (try dsimp only at hSw); go_simp; all_goals with_reducible rfl
    try simp only [apt12]
    refine tkI 11 ⟨some 15, .load 3 (.tmp 14), 3, "prim.go:128", #[⟨10, .data⟩], none⟩ ?v719 rfl (by kernel_rfl) (by rfl) ?y719 ?_
    case y719 => intro w hSw; (try dsimp only at hSw); go_simp; all_goals with_reducible rfl
    try simp only [apt12]
    refine wpAnyH_ready (rs := [5]) (by kernel_rfl) (by simp) ?_
    refine AllReadyH.cons (i := 5) (o := ⟨some 9, .call { callee := .value (.func 127), args := #[.tmp 8], argTypes := #[3] }, 3, "prim.go:128", #[⟨4, .data⟩], none⟩) rfl (fun K hK => ?_) AllReadyH.nil
    go_simp
    go_at_call 127
    have BB1 : Hid (Below w.heap.size w _) := (Below.refl _ _).drew
    refine (num_ok13 hs _).mono ?_
    rintro e u1 ⟨rfl, rfl⟩
    refine hK.out _ _ ?_ (fun hH1 => ?_)
    · exact hH0
    clear hK K
    try simp only [apt12]
    refine wpAnyH_ready (rs := [12]) (by kernel_rfl) (by simp) ?_
    refine AllReadyH.cons (i := 12) (o := ⟨some 16, .call { callee := .value (.func 127), args := #[.tmp 15], argTypes := #[3] }, 3, "prim.go:128", #[⟨11, .data⟩, ⟨5, .chain⟩], none⟩) rfl (fun K hK => ?_) AllReadyH.nil
    go_simp
    go_at_call 127
    have BB2 : Hid (Below w.heap.size w _) := hH1.2.2.2.2.2.2.2
    refine (num_ok13 ha _).mono ?_
    rintro e u2 ⟨rfl, rfl⟩
    refine hK.out _ _ ?_ (fun hH2 => ?_)
    · exact hH1
    clear hK K
    try simp only [apt12]
    refine wpAnyH_ready (rs := [13]) (by kernel_rfl) (by simp) ?_
    refine AllReadyH.cons (i := 13) (o := ⟨some 17, .call { callee := .value (.tmp 4), args := #[.tmp 9, .tmp 16], argTypes := #[3, 3] }, 3, "prim.go:128", #[⟨0, .data⟩, ⟨5, .data⟩, ⟨12, .data⟩, ⟨12, .chain⟩], none⟩) rfl (fun K hK => ?_) AllReadyH.nil
    go_simp
    go_at_call 99
    have BB3 : Hid (Below w.heap.size w _) := hH2.2.2.2.2.2.2.2
    refine (rest_any13 (n_bd13 hs) (n_bd13 ha) h0 _).mono ?_
    rintro e u3 ⟨rfl, rfl⟩
    refine hK.out _ _ ?_ (fun hH3 => ?_)
    · exact hH2
    clear hK K
    try simp only [apt12]
    refine wpAnyH_ready (rs := [14]) (by kernel_rfl) (by simp) ?_
    refine AllReadyH.cons (i := 14) (o := ⟨some 18, .call { callee := .value (.func 126), args := #[.tmp 17], argTypes := #[3] }, 3, "prim.go:128", #[⟨13, .data⟩, ⟨13, .chain⟩], none⟩) rfl (fun K hK => ?_) AllReadyH.nil
    go_simp
    go_at_call 126
    have BB4 : Hid (Below w.heap.size w _) := hH3.2.2.2.2.2.2.2
    refine (small_no13 hq _).mono ?_
    rintro e u9 ⟨rfl, rfl⟩
    exact ⟨rfl, pr_stop13 BB4.out (by rw [HRR.out, if_neg (by rw [hs, ha]; simp), if_neg h0, in_no13 hq]) (by decide)⟩
  go_enter Tryz.func125, Tryz.ntmps125
  go_upto_region 1 with fail
  refine wp_region_held_drew (S := (fun w' => w'.cell? ⟨b, 0, none⟩ = some (.slice A h.objs.length c) ∧ w'.cell? ⟨b, 1, none⟩ = some (.int .i64 h.cap) ∧ w'.cell? ⟨b, 2, none⟩ = some (.int .i64 h.last) ∧ w'.cell? ⟨b, 3, none⟩ = some (.int .i64 s) ∧ w'.cell? ⟨b, 4, none⟩ = some (.slice (some ⟨p, o, none⟩) args.length da) ∧ w'.cell? ⟨p, o, none⟩ = some (.int .i64 a0) ∧ w'.cell? ⟨kb, 0, none⟩ = some (.func (.func 99) #[] #[]) ∧ Below w.heap.size w w')) (by kernel_rfl) ?_ (fun hH0 => ?_)
  · exact ⟨cell_later (Below.refl w.heap.size w).drew x0, cell_later (Below.refl w.heap.size w).drew x1, cell_later (Below.refl w.heap.size w).drew x2, cell_later (Below.refl w.heap.size w).drew x3, cell_later (Below.refl w.heap.size w).drew x4, cell_later (Below.refl w.heap.size w).drew q0, cell_later (Below.refl w.heap.size w).drew k0, (Below.refl _ _).drew⟩
  refine tkI 0 ⟨some 4, .load 63 (.tmp 1), 63, "prim.go:128", #[], none⟩ ?v720 rfl (by kernel_rfl) (by rfl) ?y720 ?_
  case y720 => intro w hSw; (try dsimp only at hSw); go_simp; all_goals with_reducible rfl
  try simp only [apt12]
  refine tkI 1 ⟨some 5, .move (.tmp 0), 70, "prim.go:128", #[], none⟩ ?v721 rfl (by kernel_rfl) (by rfl) ?y721 ?_
  case y721 => intro w hSw; (try dsimp only at hSw); go_simp; all_goals with_reducible rfl
  try simp only [apt12]
  refine tkI 2 ⟨some 6, .nilCheck (.tmp 5), 0, "prim.go:128", #[⟨1, .data⟩], none⟩ ?v722 rfl (by kernel_rfl) (by rfl) ?y722 ?_
  case y722 => intro w hSw; (try dsimp only at hSw); go_simp; all_goals with_reducible rfl
  try simp only [apt12]
  refine tkI 3 ⟨some 7, .fieldAddr 49 (.tmp 6) 1, 0, "prim.go:128", #[⟨2, .data⟩], none⟩ ?v723 rfl (by kernel_rfl) (by rfl) ?y723 ?_
  case y723 => intro w hSw; (try dsimp only at hSw); go_simp; all_goals with_reducible rfl
  try simp only [apt12]
  refine tkI 4 ⟨some 8, .load 3 (.tmp 7), 3, "prim.go:128", #[⟨3, .data⟩], none⟩ ?v724 rfl (by kernel_rfl) (by rfl) ?y724 ?_
  case y724 => intro w hSw; (try dsimp only at hSw); go_simp; all_goals with_reducible rfl
  try simp only [apt12]
  refine tkI 6 ⟨some 10, .move (.tmp 0), 70, "prim.go:128", #[], none⟩ ?v725 rfl (by kernel_rfl) (by rfl) ?y725 ?_
  case y725 => intro w hSw; (try dsimp only at hSw); go_simp; all_goals with_reducible rfl
  try simp only [apt12]
  refine tkI 7 ⟨some 11, .nilCheck (.tmp 10), 0, "prim.go:128", #[⟨6, .data⟩], none⟩ ?v726 rfl (by kernel_rfl) (by rfl) ?y726 ?_
  case y726 => intro w hSw; (try dsimp only at hSw); go_simp; all_goals with_reducible rfl
  try simp only [apt12]
  refine tkI 8 ⟨some 12, .fieldAddr 49 (.tmp 11) 2, 0, "prim.go:128", #[⟨7, .data⟩], none⟩ ?v727 rfl (by kernel_rfl) (by rfl) ?y727 ?_
  case y727 => intro w hSw; (try dsimp only at hSw); go_simp; all_goals with_reducible rfl
  try simp only [apt12]
  refine tkI 9 ⟨some 13, .load 25 (.tmp 12), 25, "prim.go:128", #[⟨8, .data⟩], none⟩ ?v728 rfl (by kernel_rfl) (by rfl) ?y728 ?_
  case y728 => intro w hSw; (try dsimp only at hSw); go_simp; all_goals with_reducible rfl
  try simp only [apt12]
  refine tkI 10 ⟨some 14, .indexAddr 25 (.tmp 13) (.const (Go.Value.int .i64 0)), 0, "prim.go:128", #[⟨9, .data⟩], none⟩ ?v729 rfl (by kernel_rfl) (by rfl) ?y729 ?_
  case y729 => intro w hSw; (try dsimp only at hSw); go_simp; all_goals with_reducible rfl
  try simp only [apt12]
  refine tkI 11 ⟨some 15, .load 3 (.tmp 14), 3, "prim.go:128", #[⟨10, .data⟩], none⟩ ?v730 rfl (by kernel_rfl) (by rfl) ?y730 ?_
  case y730 => intro w hSw; (try dsimp only at hSw); go_simp; all_goals with_reducible rfl
  try simp only [apt12]
  refine wpAnyH_ready (rs := [5]) (by kernel_rfl) (by simp) ?_
  refine AllReadyH.cons (i := 5) (o := ⟨some 9, .call { callee := .value (.func 127), args := #[.tmp 8], argTypes := #[3] }, 3, "prim.go:128", #[⟨4, .data⟩], none⟩) rfl (fun K hK => ?_) AllReadyH.nil
  go_simp
  go_at_call 127
  have BB1 : Hid (Below w.heap.size w _) := (Below.refl _ _).drew
  refine (num_ok13 hs _).mono ?_
  rintro e u1 ⟨rfl, rfl⟩
  refine hK.out _ _ ?_ (fun hH1 => ?_)
  · exact hH0
  clear hK K
  try simp only [apt12]
  refine wpAnyH_ready (rs := [12]) (by kernel_rfl) (by simp) ?_
  refine AllReadyH.cons (i := 12) (o := ⟨some 16, .call { callee := .value (.func 127), args := #[.tmp 15], argTypes := #[3] }, 3, "prim.go:128", #[⟨11, .data⟩, ⟨5, .chain⟩], none⟩) rfl (fun K hK => ?_) AllReadyH.nil
  go_simp
  go_at_call 127
  have BB2 : Hid (Below w.heap.size w _) := hH1.2.2.2.2.2.2.2
  refine (num_ok13 ha _).mono ?_
  rintro e u2 ⟨rfl, rfl⟩
  refine hK.out _ _ ?_ (fun hH2 => ?_)
  · exact hH1
  clear hK K
  try simp only [apt12]
  refine wpAnyH_ready (rs := [13]) (by kernel_rfl) (by simp) ?_
  refine AllReadyH.cons (i := 13) (o := ⟨some 17, .call { callee := .value (.tmp 4), args := #[.tmp 9, .tmp 16], argTypes := #[3, 3] }, 3, "prim.go:128", #[⟨0, .data⟩, ⟨5, .data⟩, ⟨12, .data⟩, ⟨12, .chain⟩], none⟩) rfl (fun K hK => ?_) AllReadyH.nil
  go_simp
  go_at_call 99
  have BB3 : Hid (Below w.heap.size w _) := hH2.2.2.2.2.2.2.2
  refine (rest_any13 (n_bd13 hs) (n_bd13 ha) h0 _).mono ?_
  rintro e u3 ⟨rfl, rfl⟩
  refine hK.out _ _ ?_ (fun hH3 => ?_)
  · exact hH2
  clear hK K
  try simp only [apt12]
  refine wpAnyH_ready (rs := [14]) (by kernel_rfl) (by simp) ?_
  refine AllReadyH.cons (i := 14) (o := ⟨some 18, .call { callee := .value (.func 126), args := #[.tmp 17], argTypes := #[3] }, 3, "prim.go:128", #[⟨13, .data⟩, ⟨13, .chain⟩], none⟩) rfl (fun K hK => ?_) AllReadyH.nil
  go_simp
  go_at_call 126
  have BB4 : Hid (Below w.heap.size w _) := hH3.2.2.2.2.2.2.2
  refine (small_ok13 hq _).mono ?_
  rintro e u4 ⟨rfl, rfl⟩
  refine hK.out _ _ ?_ (fun hH4 => ?_)
  · exact hH3
  clear hK K
  try simp only [apt12]
  refine tkI 15 ⟨some 3, .assign (.tmp 18), 3, "prim.go:128", #[⟨14, .data⟩, ⟨14, .chain⟩, ⟨0, .phase⟩, ⟨1, .phase⟩, ⟨2, .phase⟩, ⟨3, .phase⟩, ⟨4, .phase⟩, ⟨5, .phase⟩, ⟨6, .phase⟩, ⟨7, .phase⟩, ⟨8, .phase⟩, ⟨9, .phase⟩, ⟨10, .phase⟩, ⟨11, .phase⟩, ⟨12, .phase⟩, ⟨13, .phase⟩, ⟨14, .phase⟩], none⟩ ?v731 rfl (by kernel_rfl) (by rfl) ?y731 ?_
  case y731 => intro w hSw; (try dsimp only at hSw); go_simp; all_goals with_reducible rfl
  try simp only [apt12]
  refine wpAnyH_done (by kernel_rfl) ?_ _
  go_wp2_with fail
  go_ret
  exact pr_keep13 HI.out (hH4.2.2.2.2.2.2.2) (by rw [HRR.out, if_neg (by rw [hs, ha]; simp), if_neg h0, in_ok13 hq])
end Go.Proofs.YtkpfmbdkfgeboaaGreat
