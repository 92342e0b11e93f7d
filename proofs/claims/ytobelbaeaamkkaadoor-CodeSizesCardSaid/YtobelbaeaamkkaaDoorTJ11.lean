/- The program's words: which Op a word is. -/
import Derived.Test.YtobelbaeaamkkaaDoorTI11
import Derived.Laws.Rows
namespace Go.Proofs.YtobelbaeaamkkaaDoor
open Go.RowKit
set_option maxRecDepth 100000
theorem wrd_size11 : wrdV.size = 19 := by unfold wrdV; simp [wds11]
theorem info19_11 : (Tryd.prog.info? 57).map (·.size) = some 19 := by kernel_rfl
theorem wrd_at11 (k : Nat) (hk : k < 19) : wrdV[k]? = some (.string (str (wd11 k))) := by
  have e : wrdV[k]? = (wds11[k]?).map fun l => Value.string (str l) := by unfold wrdV; rw [List.getElem?_toArray, List.getElem?_map]
  have hl : k < wds11.length := hk
  rw [e, List.getElem?_eq_getElem hl]
  show some _ = some (Value.string (str (wds11.getD ((k : Int)).toNat [])))
  rw [Int.toNat_natCast, List.getD_eq_getElem?_getD, List.getElem?_eq_getElem hl]
  rfl
theorem Vr11.row {w : World} (h : Vr11 w) : ∃ t fr, w.heap[(0 : Nat)]? = some (.cells wrdV t fr) := by
  have := h.words
  unfold World.var? at this
  rw [gWords11] at this
  simp only [Option.bind_some] at this
  split at this
  · next cs t fr hh =>
    injection this with this
    subst this
    exact ⟨t, fr, hh⟩
  · cases this
theorem run_word11 (k : Nat) (hk : k < 19) (w : World) : (Instr.index 57 (.agg wrdV) (.int .i64 (k : Int))).run Tryd.prog w = .ok (.string (str (wd11 k))) w := by
  have h0 : (0 : Int) ≤ (k : Int) ∧ (k : Int) < ((19 : Nat) : Int) := by omega
  have h1 := wrd_at11 k hk
  simp [Instr.index, run_underlying Tryd.underlying57, asIntOf, h0, go_sem, part, Tryd.sizeOf9, Tryd.isAgg9, h1]
  intro h
  omega
/-- which Op a word is, and whether there is one -/
def OpP11 (s : List UInt8) (w : World) (e : Ending) (w' : World) : Prop := (∃ k : Int, e = .returned (.tuple #[.int .i64 k, .bool (wds11.contains s)]) ∧ (wds11.contains s = true → k = op11 s)) ∧ w = w'
set_option maxHeartbeats 1000000 in
theorem opof_any11 (s : List UInt8) (w : World) (hv : Vr11 w) : Calls Tryd.prog 46 #[.string (str s)] w (OpP11 s w) := by
  obtain ⟨t, fr, hrow⟩ := hv.row
  have HR := hid hrow
  clear hrow hv
  go_enter Tryd.func46, Tryd.ntmps46
  go_wp2_with (first | (refine wpList_load_row rfl 57 (.global 0) rfl 0 rfl t wrdV fr _ HR.out Tryd.underlying57 rfl (by rw [wrd_size11]; exact info19_11) ?_) | fail)
  go_loopw [4, 5, 7] (fun _ _ i wr => ∃ j : Nat, j ≤ 19 ∧ i = .int .i64 j ∧ Hid (s ∉ wds11.take j) ∧ wr = w) (fun _ _ i _ => 20 - (intOf i).toNat)
  case atStart => exact ⟨0, by omega, rfl, by show s ∉ _; simp, rfl⟩
  case round =>
    obtain ⟨j, hjl, rfl, HT, rfl⟩ := hrel
    have hjw : IntKind.i64.wrap ((j : Int) + 1) = (j : Int) + 1 := IntWalk.i64_in _ ⟨by omega, by omega⟩
    have hj0 : (0 : Int) ≤ (j : Int) := by omega
    by_cases hj : j < 19
    · have hjI : (j : Int) < 19 := by omega
      have hat := wrd_at11 j hj
      have hsz := wrd_size11
      have hix := run_word11 j hj
      have HTK : Hid (wds11.take (j + 1) = wds11.take j ++ [wd11 j]) := by
        show _ = _
        have hl : j < wds11.length := hj
        rw [List.take_succ_eq_append_getElem hl]
        unfold wd11
        rw [Int.toNat_natCast, List.getD_eq_getElem?_getD, List.getElem?_eq_getElem hl]
        rfl
      have HME : Hid (wd11 j ∈ wds11) := by
        have h : wd11 j ∈ wds11.take (j + 1) := by rw [HTK.out]; simp
        exact List.mem_of_mem_take h
      obtain ⟨t1, ht1⟩ : ∃ t, t = str (wd11 j) := ⟨_, rfl⟩
      rw [← ht1] at hix
      have HT1 := hid ht1
      have hcmp : t1.toList = wd11 j := by rw [ht1, Lib.toList_data, list_str]
      have hcms : (str s).toList = s := by rw [Lib.toList_data, list_str]
      clear hat hsz ht1
      by_cases he : wd11 j = s
      · have HC : Hid (wds11.contains s = true) := by show _ = _; rw [← he]; simpa using HME.out
        have HI : Hid (op11 s = (j : Int)) := by
          show _ = _
          unfold op11
          have hl : j < wds11.length := hj
          have : wds11.idxOf s = j := by
            have h1 : wds11 = wds11.take (j + 1) ++ wds11.drop (j + 1) := (List.take_append_drop _ _).symm
            rw [h1, HTK.out, List.append_assoc, List.idxOf_append, if_neg HT.out, List.length_take, Nat.min_eq_left (Nat.le_of_lt hl), he]
            simp
          rw [this]
        have heq2 : (t1.toList == (str s).toList) = true := by rw [hcmp, hcms, he]; simp
        have heq3 : t1.toList = (str s).toList := by rw [hcmp, hcms, he]
        clear hcmp hcms he
        go_wp2_with fail
        go_ret2
        exact ⟨⟨j, by rw [HC.out]; rfl, fun _ => HI.out.symm⟩, rfl⟩
      · have HN : Hid (s ∉ wds11.take (j + 1)) := by
          show s ∉ _
          rw [HTK.out]
          intro h
          rcases List.mem_append.1 h with h | h
          · exact HT.out h
          · rw [List.mem_singleton] at h; exact he h.symm
        have hne2 : (t1.toList == (str s).toList) = false := by rw [hcmp, hcms]; exact beq_eq_false_iff_ne.2 he
        have hne3 : ¬ t1.toList = (str s).toList := by rw [hcmp, hcms]; exact he
        clear hcmp hcms he
        go_wp2_with fail
        go_roundw
        case rel => exact ⟨j + 1, by omega, by go_num, HN, trivial⟩
        case measure => simp only [intOf]; omega
    · obtain rfl : j = 19 := by omega
      have HC : Hid (wds11.contains s = false) := by
        show _ = _
        have := HT.out
        rw [List.take_of_length_le (by decide)] at this
        simpa using this
      go_wp2_with fail
      go_ret2
      exact ⟨⟨0, by rw [HC.out]; rfl, fun h => by rw [HC.out] at h; cases h⟩, rfl⟩
end Go.Proofs.YtobelbaeaamkkaaDoor
