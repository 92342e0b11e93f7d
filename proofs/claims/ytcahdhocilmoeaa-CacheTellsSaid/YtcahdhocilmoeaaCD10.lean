/- The program's cache: a new one, one that is emptied. -/
import Derived.Test.YtcahdhocilmoeaaCC10
import Derived.Deep.OwnRows
namespace Go.Proofs.Ytcahdhocilmoeaa
open Go.RowKit
set_option maxRecDepth 100000
theorem make_pc10 (k : Nat) (h1 : 1 ≤ k) (h64 : k ≤ 64) (w : World) : (Instr.makeSlice 82 (.int .i64 (k : Int)) (.int .i64 (k : Int))).run Try.prog w = .ok (.slice (some ⟨w.heap.size, 0, none⟩) k k) (w.alloc (.cells (pc10 (nw10 k)) 92)) := by
  obtain ⟨j0, hj, hzz⟩ := Option.map_eq_some_iff.1 place_info
  simp only [Prod.mk.injEq] at hzz
  obtain ⟨hy0, hy1, hy2⟩ := hzz
  have := run_make (P := Try.prog) w 82 92 j0 _ Try.underlying82 hj hy0 .i64 .i64 (k : Int) (k : Int) (by omega) (Int.le_refl _) (by rw [hy2]; omega) (by omega)
  rw [hy1] at this
  rw [← pc10_new]
  simpa [Value.cells, Builtin.zeroCells, madeCells] using this
theorem make_rc10 (k : Nat) (h1 : 1 ≤ k) (h64 : k ≤ 64) (w : World) : (Instr.makeSlice 61 (.int .i64 (k : Int)) (.int .i64 (k : Int))).run Try.prog w = .ok (.slice (some ⟨w.heap.size, 0, none⟩) k k) (w.alloc (.cells (rc10 (nw10 k)) 86)) := by
  obtain ⟨j0, hj, hzz⟩ := Option.map_eq_some_iff.1 entry_info
  simp only [Prod.mk.injEq] at hzz
  obtain ⟨hy0, hy1, hy2⟩ := hzz
  have := run_make (P := Try.prog) w 61 86 j0 _ Try.underlying61 hj hy0 .i64 .i64 (k : Int) (k : Int) (by omega) (Int.le_refl _) (by rw [hy2]; omega) (by omega)
  rw [hy1] at this
  rw [← rc10_new]
  simpa [Value.cells, Builtin.zeroCells, madeCells] using this
theorem new_no10 (n : Int) (w : World) (h : n < 1 ∨ 64 < n) : Calls Try.prog 37 #[.int .i64 n] w fun e w' => e = .returned (.pointer none) ∧ w = w' := by
  by_cases h1 : n < 1
  · clear h
    go_enter Try.func37, Try.ntmps37
    go_wp2_with fail
    go_ret
    exact ⟨rfl, rfl⟩
  · have h2 : 64 < n := by omega
    clear h
    go_enter Try.func37, Try.ntmps37
    go_wp2_with fail
    go_ret
    exact ⟨rfl, rfl⟩
def NewCa (w : World) (k : Nat) (e : Ending) (w' : World) : Prop := ∃ p q, e = .returned (pp10 p) ∧ Ca w' p q (nw10 k) 0 0 ∧ w.heap.size ≤ p ∧ w.heap.size ≤ q ∧ Below w.heap.size w w'
theorem new_any10 (k : Nat) (h1 : 1 ≤ k) (h64 : k ≤ 64) (w : World) : Calls Try.prog 37 #[.int .i64 (k : Int)] w (NewCa w k) := by
  have hm := make_pc10 k h1 h64
  have k1 : ¬ (k : Int) < 1 := by omega
  have k2 : ¬ (64 : Int) < (k : Int) := by omega
  clear h1 h64
  go_enter Try.func37, Try.ntmps37
  go_wp2_with fail
  go_ret
  have e : (nw10 k).length = k := nw10_len k
  refine ⟨w.heap.size + 1, w.heap.size, rfl, ⟨?_, ?_⟩, by omega, by omega, below_alloc2 _ _ _⟩
  · rw [e]
    have := Lies.new (w.alloc (.cells (pc10 (nw10 k)) 92)) 84 #[.slice (some ⟨w.heap.size, 0, none⟩) k k, .int .i64 0, .int .i64 0]
    simpa using this
  · exact (Lies.new w _ _).alloc _
theorem flush_nil10 (w : World) : Calls Try.prog 39 #[.pointer none] w fun e w' => e = .returned (.tuple #[]) ∧ w = w' := by
  go_enter Try.func39, Try.ntmps39
  go_wp2_with fail
  refine (made_nil _).mono ?_
  rintro e w1 ⟨rfl, rfl⟩
  go_wp2_with fail
  refine bodyPost_end (v := .tuple #[]) (by simp [results, Try.results39, go_sem]) rfl ?_
  exact ⟨rfl, rfl⟩
theorem flush_any10 {w : World} {p q : Nat} {L : List En} {n m : Int} (h : Ca w p q L n m) (hl : 1 ≤ L.length) :
    Calls Try.prog 39 #[pp10 p] w fun e w' => e = .returned (.tuple #[]) ∧ Ca w' p q (nw10 L.length) n m ∧ Only2 p q w w' := by
  have c0 := h.box.cell 0
  simp only [List.getElem?_toArray, List.getElem?_cons_zero] at c0
  have HM := hid (made_any h hl)
  have hcl : ∀ ty, (Builtin.clear_ #[82] ty #[.slice (some ⟨q, 0, none⟩) L.length L.length]).run Try.prog w = .ok (.tuple #[]) (w.setRow q (pc10 (nw10 L.length))) := fun ty => by
    obtain ⟨j0, hj, hy0, hy1, hy2⟩ := info_parts place_info
    rw [← pc10_new]
    refine run_clear_row w 82 92 ty (.agg #[.int .i64 0, .int .i64 0, .bool false, .int .i64 0, .int .i64 0]) Try.underlying82 (by simp [zeroValue, typeInfo, hj, hy0]) q L.length L.length hl _ h.row ?_ ?_
    · show (Builtin.zeroCells #[.int .i64 0, .int .i64 0, .bool false, .int .i64 0, .int .i64 0] L.length).size = _
      rw [pc10_new, pc10_size, pc10_size, nw10_len]
    · show ∀ v ∈ (Builtin.zeroCells #[.int .i64 0, .int .i64 0, .bool false, .int .i64 0, .int .i64 0] L.length).toList, _
      rw [pc10_new]; exact pc10_one _
  have HR : Hid (Ca (w.setRow q (pc10 (nw10 L.length))) p q (nw10 L.length) n m) := by
    refine ⟨?_, h.row.row⟩
    rw [nw10_len]; exact h.box.farRow h.ne
  clear h hl
  go_enter Try.func39, Try.ntmps39
  go_wp2_with fail
  refine HM.out.mono ?_
  rintro e w1 ⟨rfl, rfl⟩
  go_wp2_with fail
  refine bodyPost_end (v := .tuple #[]) (by simp [results, Try.results39, go_sem]) rfl ?_
  exact ⟨rfl, HR.out, only2_row _ _ _ _⟩
end Go.Proofs.Ytcahdhocilmoeaa
