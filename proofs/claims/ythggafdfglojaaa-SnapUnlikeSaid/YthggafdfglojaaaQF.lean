/- Where one comes to from each byte: the program's table. -/
import Derived.Test.YthggafdfglojaaaQC
import Derived.Deep.RegionHeld3
import Derived.Deep.RegionWith
import Derived.Deep.DeepCutAuto
import Derived.Laws.Rows
import Derived.Laws.CopyOwn
import Derived.Deep.WholeRow
namespace Go.Proofs.Ythggafdfglojaaa
open Go.RowKit
set_option maxRecDepth 100000
def zC : Array Value := Array.replicate 256 (.int .u32 0)
theorem zC_size : zC.size = 256 := by unfold zC; exact Array.size_replicate
/-- the table, of which k bytes have been filled in -/
def tbC (k : Nat) : Array Value := ((List.range 256).map fun b => Value.int .u32 (if b < k then ((gk 8 b : Nat) : Int) else 0)).toArray
theorem tbC_size (k : Nat) : (tbC k).size = 256 := by simp [tbC]
theorem tbC_at {k b : Nat} (h : b < 256) : (tbC k)[b]? = some (.int .u32 (if b < k then ((gk 8 b : Nat) : Int) else 0)) := by
  unfold tbC
  rw [List.getElem?_toArray, List.getElem?_map, List.getElem?_range h]; rfl
theorem tbC_zero : tbC 0 = zC := by
  apply Array.ext_getElem?
  intro i
  by_cases h : i < 256
  · rw [tbC_at h]; unfold zC; rw [Array.getElem?_replicate, if_pos h]; rfl
  · rw [Array.getElem?_eq_none (by rw [tbC_size]; omega), Array.getElem?_eq_none (by rw [zC_size]; omega)]
theorem tbC_step {k : Nat} (h : k < 256) : (tbC k).setIfInBounds k (.int .u32 ((gk 8 k : Nat) : Int)) = tbC (k + 1) := by
  apply Array.ext_getElem?
  intro i
  by_cases hi : i < 256
  · rw [tbC_at hi, Array.getElem?_setIfInBounds, tbC_size]
    by_cases e : k = i
    · subst e; rw [if_pos rfl, if_pos h, if_pos (by omega)]
    · rw [if_neg e, tbC_at hi]
      congr 2
      by_cases h1 : i < k
      · rw [if_pos h1, if_pos (by omega)]
      · rw [if_neg h1, if_neg (by omega)]
  · rw [Array.getElem?_eq_none (by rw [Array.size_setIfInBounds, tbC_size]; omega), Array.getElem?_eq_none (by rw [tbC_size]; omega)]
theorem tbC_one (k : Nat) : (tbC k).all (·.oneCell') = true := by
  simp [tbC, Value.oneCell']
theorem info33 : (Try.prog.info? 114).map (·.size) = some 256 := by kernel_rfl
theorem zero33 (w : World) : (zeroValue 114).run Try.prog w = .ok (.agg zC) w := by kernel_rfl
set_option maxHeartbeats 1000000 in
theorem each_any (w : World) : Calls Try.prog 118 #[] w fun e w' => e = .returned (.agg (tbC 256)) ∧ Below w.heap.size w w' := by
  have Z := zero33
  obtain ⟨w0, hw0⟩ : ∃ w0, w0 = (w.alloc (.cells zC 114)).alloc (.cells zC 114) := ⟨_, rfl⟩
  have HB0 : Hid (Below w.heap.size w w0) := by show Below _ _ _; rw [hw0]; exact below_alloc2 _ _ _
  have HZ0 : Hid (Lies w0 w.heap.size 114 zC) := by
    show Lies _ _ _ _
    rw [hw0]
    exact (Lies.new w _ zC).alloc _
  have HT0 : Hid (Lies w0 (w.heap.size + 1) 114 (tbC 0)) := by
    show Lies _ _ _ _
    rw [hw0, tbC_zero]
    have := Lies.new (w.alloc (.cells zC 114)) 114 zC
    simpa using this
  go_enter Try.func118, Try.ntmps118
  go_upto_region 2 with fail
  rw [← hw0]
  clear hw0 Z
  go_wp2
  go_loopw [4] (fun i wr => ∃ k : Nat, k ≤ 256 ∧ i = .int .i64 k ∧ Lies wr w.heap.size 114 zC ∧ Lies wr (w.heap.size + 1) 114 (tbC k) ∧ Below w.heap.size w wr) (fun i _ => 256 - (intOf i).toNat)
  case atStart => exact ⟨0, by omega, rfl, HZ0.out, HT0.out, HB0.out⟩
  case round =>
    obtain ⟨k, hk, rfl, hz, ht, hb⟩ := hrel
    have HZ := hid hz
    have HT := hid ht
    have HB := hid hb
    clear hz ht hb
    by_cases hlt : k < 256
    · have hltI : (k : Int) < 256 := by omega
      have hw32 : IntKind.u32.wrap (k : Int) = k := IntWalk.u32_in _ ⟨by omega, by omega⟩
      go_wp2
      go_loop [9, 3] (fun i s => ∃ j : Nat, j ≤ 8 ∧ i = .int .i64 j ∧ s = .int .u32 ((gk j k : Nat) : Int)) (fun i _ => 8 - (intOf i).toNat)
      case atStart => exact ⟨0, by omega, rfl, rfl⟩
      case round =>
        obtain ⟨j, hj, rfl, rfl⟩ := hrel
        by_cases hjl : j < 8
        · have hg : gk j k < 4294967296 := gk_lt j (by omega)
          go_wp2_with fail
          refine (onw_any (gk j k) hg _).mono ?_
          rintro e w' ⟨rfl, rfl⟩
          go_wp2
          go_round
          case rel => exact ⟨j + 1, by omega, by go_num, rfl⟩
          case measure => simp [intOf]; omega
        · obtain rfl : j = 8 := by omega
          have c1 := HT.out.cell k
          rw [tbC_at hlt] at c1
          have f1 := HT.out.frozen k
          go_wp2
          go_roundw
          case rel => exact ⟨k + 1, by omega, by go_num, HZ.out.far (by exact Nat.ne_of_lt (Nat.lt_succ_self _)) _, by rw [← tbC_step hlt]; exact HT.out.set_ k _, HB.out.setCell (by exact Nat.le_succ _) _⟩
          case measure => simp [intOf]; omega
    · obtain rfl : k = 256 := by omega
      have HS := hid (tbC_size 256)
      go_wp2_with (first | (refine wpList_load_row rfl 114 (.tmp 1) rfl (w.heap.size + 1) rfl 114 (tbC 256) (0, 0) _ HT.out Try.underlying114 rfl (by rw [tbC_size]; exact info33) ?_) | (refine wpList_store_row rfl 114 (.tmp 0) (.tmp 18) rfl w.heap.size (tbC 256) rfl rfl 114 zC HZ.out (by rw [tbC_size]; exact info33) (by rw [tbC_size, zC_size]) (tbC_one 256) ?_))
      refine bodyPost_ret (results_cell_row Try.results118 _ _ w.heap.size 114 (tbC 256) (0, 0) _ rfl (setRow_heap _ _ _ _ _ _ HZ.out) Try.underlying114 rfl (by rw [tbC_size]; exact info33)) rfl ⟨rfl, below_setRow HB.out (Nat.le_refl _) _⟩
theorem tb_store (W : World) : (storeCells ⟨W.heap.size, 0, none⟩ (tbC 256).toList).run Try.prog (W.alloc (.cells zC 114)) = .ok () (W.alloc (.cells (tbC 256) 114)) := by
  have hs : (tbC 256).toList.length = 256 := by rw [Array.length_toList, tbC_size]
  have h := run_storeCells_from (P := Try.prog) W.heap.size 114 (tbC 256).toList 0 zC (W.alloc (.cells zC 114)) (Lies.new W _ zC) (by rw [hs, zC_size]) (fun v hv => (Array.all_eq_true_iff_forall_mem.1 (tbC_one 256)) v (by simpa using hv))
  rw [h, List.take_zero, List.nil_append, Array.toArray_toList]
  rw [World.setRow_alloc_new]
end Go.Proofs.Ythggafdfglojaaa
