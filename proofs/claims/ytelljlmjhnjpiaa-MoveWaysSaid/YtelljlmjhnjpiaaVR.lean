/- slices.Repeat of one int. -/
import Derived.Test.YtelljlmjhnjpiaaK
import Derived.Test.YtelljlmjhnjpiaaZ
import Derived.Laws.CopyOwn
import Derived.Deep.OwnRows
import Derived.Deep.RegionLaw
namespace Go.Proofs.Ytelljlmjhnjpiaa
open Go.RowKit
set_option maxRecDepth 100000
theorem int_size : (Try.prog.info? 3).map (·.size) = some 1 := by kernel_rfl
theorem mul_one_any (n : Nat) (hn : n ≤ 9223372036854775807) (w : World) : Calls Try.prog 92 #[.int .u64 1, .int .u64 n] w fun e w' => e = .returned (.tuple #[.int .u64 0, .int .u64 n]) ∧ w' = w := by
  have := Try.bits_Mul 1 n (by omega) (by omega) w
  rw [show 1 * n / 18446744073709551616 = 0 by omega, show 1 * n % 18446744073709551616 = n by omega] at this
  exact this
theorem rep_splice {α : Type} (x z : α) {k m n : Nat} (h : k + m ≤ n) : splice (List.replicate k x ++ List.replicate (n - k) z) k (List.replicate m x) = List.replicate (k + m) x ++ List.replicate (n - (k + m)) z := by
  unfold splice
  rw [List.take_left' (by simp), List.length_replicate, List.drop_append, List.drop_eq_nil_of_le (by simp), List.nil_append, List.length_replicate, List.drop_replicate, ← List.append_assoc, List.replicate_append_replicate]
  congr 2; omega
set_option maxHeartbeats 2000000 in
theorem repeat_any (x : Int) (n : Nat) (hn : n ≤ 256) (A : Option Addr) (c : Nat) (w : World) (hs : IntsR w A [x]) :
    Calls Try.prog 70 #[.slice A 1 c, .int .i64 n] w fun e w' => ∃ A' c', e = .returned (.slice A' n c') ∧ w'.ownsRow w.heap.size 3 1 (.slice A' n c') n ((List.replicate n x).map (Value.int .i64)) ∧ Below w.heap.size w w' := by
  obtain ⟨b, o, rfl, hb, hc⟩ := hs (by simp)
  have hx := hc 0 x rfl
  have hmk := run_make_row' (P := Try.prog) 44 3 (.int .i64 0) 8 Try.underlying44 int_info rfl .i64 .i64 n (by omega) (by omega)
  have HX := hid hx
  obtain ⟨q, hq⟩ : ∃ q, q = Nat.min 1 n := ⟨_, rfl⟩
  have hq1 : q ≤ 1 := by rw [hq]; exact Nat.min_le_left _ _
  have hqn : q ≤ n := by rw [hq]; exact Nat.min_le_right _ _
  have hq0 : 0 < n → 0 < q := fun h => by rw [hq]; exact Nat.lt_min.2 ⟨Nat.one_pos, h⟩
  have HQ := hid hq
  have hrow : (w.alloc (.cells (madeCells #[.int .i64 0] n) 3)).heap[w.heap.size]? = some (.cells (List.replicate n (Value.int .i64 0)).toArray 3 (0, 0)) := by
    have := heap_alloc_new w (.cells (madeCells #[.int .i64 0] n) 3)
    rw [this, ← toList_madeCells_one, Array.toArray_toList]
  have HROW := hid hrow
  have HPOS : Hid (∀ j v, (List.replicate q (Value.int .i64 x))[j]? = some v → (w.alloc (.cells (madeCells #[.int .i64 0] n) 3)).cell? ((⟨b, o, none⟩ : Addr).add j) = some v) := by
    intro j v hj
    have h1 := (List.getElem?_eq_some_iff.1 hj).1
    rw [List.length_replicate] at h1
    obtain rfl : j = 0 := by omega
    rw [List.getElem?_replicate, if_pos h1] at hj
    rw [Addr.add_lit, ← Option.some.inj hj]
    exact cell_old HX.out
  have HBA := hid (below_alloc w (.cells (madeCells #[.int .i64 0] n) 3))
  clear hx hc hs hb hrow hq
  go_enter Try.func70, Try.ntmps70
  go_wp2_with fail
  refine (mul_one_any n (by omega) _).mono ?_
  rintro e w1 ⟨rfl, rfl⟩
  go_upto_region 7 with fail
  go_wp2_with (refine wpList_copy_splice rfl (.tmp 31) (.tmp 32) 44 44 rfl 3 Try.underlying44 int_size _ _ _ _ _ _ rfl rfl w1.heap.size 0 (List.replicate n (Value.int .i64 0)) 3 HROW.out (List.replicate q (Value.int .i64 x)) (by rw [List.length_replicate]; exact HQ.out) (fun _ => ⟨rfl, _, rfl, HPOS.out⟩) (by simpa using hqn) (by intro v hv; rw [List.eq_of_mem_replicate hv]; rfl) w1.heap.size w1 HBA.out (Nat.le_refl _) ?_)
  intro w2 HG HB2
  have HB2 := hid HB2
  have hsp := rep_splice (Value.int .i64 x) (Value.int .i64 0) (k := 0) (m := q) (n := n) (by omega)
  simp only [List.replicate_zero, List.nil_append, Nat.sub_zero, Nat.zero_add] at hsp
  rw [hsp] at HG
  clear hsp
  go_wp2_with fail
  go_loopw [8] (fun i wr => ∃ k : Nat, (0 < n → 0 < k) ∧ k ≤ n ∧ i = .int .i64 k ∧ wr.heap[w1.heap.size]? = some (.cells (List.replicate k (Value.int .i64 x) ++ List.replicate (n - k) (Value.int .i64 0)).toArray 3 (0, 0)) ∧ Below w1.heap.size w1 wr) (fun i _ => n - (intOf i).toNat)
  case atStart => exact ⟨q, hq0, hqn, by first | rfl | simp, HG.out, HB2.out⟩
  case round =>
    clear HG HB2
    obtain ⟨k, hk0, hk, rfl, hrow, hbw⟩ := hrel
    have HR := hid hrow
    have HW := hid hbw
    have HK0 := hid hk0
    clear hrow hbw hk0
    by_cases hlt : k < n
    · obtain ⟨m, hm⟩ : ∃ m, m = Nat.min k (n - k) := ⟨_, rfl⟩
      have hm1 : m ≤ k := by rw [hm]; exact Nat.min_le_left _ _
      have hm2 : m ≤ n - k := by rw [hm]; exact Nat.min_le_right _ _
      have hm0 : 0 < m := by rw [hm]; exact Nat.lt_min.2 ⟨HK0.out (by omega), by omega⟩
      have HM := hid hm
      clear hm
      have HRD : Hid (wr.drew.heap[w1.heap.size]? = some (.cells (List.replicate k (Value.int .i64 x) ++ List.replicate (n - k) (Value.int .i64 0)).toArray 3 (0, 0))) := HR.out
      have HWD := hid HW.out.drew
      have HPS : Hid (∀ j v, (List.replicate m (Value.int .i64 x))[j]? = some v → wr.drew.cell? ((⟨w1.heap.size, 0, none⟩ : Addr).add j) = some v) := by
        intro j v hj
        have h1 := (List.getElem?_eq_some_iff.1 hj).1
        rw [List.length_replicate] at h1
        rw [List.getElem?_replicate, if_pos h1] at hj
        rw [Addr.add_lit, Nat.zero_add, ← Option.some.inj hj]
        simp only [World.cell?, HRD.out]
        have hjk : j < k := by omega
        simp [List.getElem?_append, hjk]
      go_wp2_with fail
      go_region_law (refine step_copy_splice rfl (.tmp 41) (.tmp 44) 44 44 rfl 3 Try.underlying44 int_size (some ⟨w1.heap.size, k, none⟩) (some ⟨w1.heap.size, 0, none⟩) (n - k) (n - k) k n (by simp [Act.eval, Act.put]; omega) (by simp [Act.eval, Act.put]) w1.heap.size k (List.replicate k (Value.int .i64 x) ++ List.replicate (n - k) (Value.int .i64 0)) 3 HRD.out (List.replicate m (Value.int .i64 x)) (by rw [List.length_replicate]; exact HM.out) (fun _ => ⟨rfl, _, rfl, HPS.out⟩) (by simp; omega) (by intro v hv; rw [List.eq_of_mem_replicate hv]; rfl) w1.heap.size w1 HWD.out (Nat.le_refl _) ?_; intro w4 hg4 hb4)
      rw [rep_splice _ _ (by omega)] at hg4
      have hwr : IntKind.i64.wrap ((k : Int) + (m : Int)) = (k : Int) + (m : Int) := by rw [IntKind.wrap_i64]; omega
      rw [hwr]
      have HB4 := hid hb4
      clear hb4 hwr
      go_wp2_with fail
      go_roundw
      case rel => exact ⟨k + m, fun _ => by omega, by omega, by go_num, hg4.out, HB4.out⟩
      case measure => simp [intOf]; omega
    · obtain rfl : k = n := by omega
      go_wp2_with fail
      go_ret
      have hR := HR.out
      rw [Nat.sub_self, List.replicate_zero, List.append_nil] at hR
      exact ⟨some ⟨w1.heap.size, 0, none⟩, k, rfl, ⟨by simp, .inr ⟨w1.heap.size, k, (List.replicate k (Value.int .i64 x)).toArray, rfl, Nat.le_refl _, hR, Nat.le_refl _, by unfold maxLen; omega, by simp, by simp⟩⟩, HW.out⟩
end Go.Proofs.Ytelljlmjhnjpiaa
