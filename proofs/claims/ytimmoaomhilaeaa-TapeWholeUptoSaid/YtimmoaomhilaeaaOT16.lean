/- A tape among the arguments, opened. -/
import Derived.Test.YtimmoaomhilaeaaOP0
import Derived.Test.YtimmoaomhilaeaaMA16
import Derived.SizedLaws
import Derived.JoinedCond
namespace Go.Proofs.Ytimmoaomhilaeaa
open Go.ChangeShapes Go.WideShapes Go.RowKit Go.Deep Go.Joins
set_option maxRecDepth 100000
theorem bulk_one16 {H : Type} (d : DataW H) : 1 ≤ Rows.uptoBulk d := by
  cases d with
  | lit l => cases l <;> simp [Rows.uptoBulk]
  | nil => simp [Rows.uptoBulk]
  | ptr d => simp [Rows.uptoBulk]
  | slice elems spare => simp [Rows.uptoBulk]
  | agg parts => simp [Rows.uptoBulk]
  | iface t d => simp [Rows.uptoBulk]
  | map entries => simp [Rows.uptoBulk]
  | held h => simp [Rows.uptoBulk]
theorem bulk_len16 {H : Type} : ∀ l : List (DataW H), l.length ≤ Rows.uptoBulkAll l
  | [] => by simp
  | d :: l => by
    have := bulk_one16 d
    have := bulk_len16 l
    simp only [Rows.uptoBulkAll, List.length_cons]
    omega
theorem bulk_slice16 {H : Type} (l m : List (DataW H)) : l.length ≤ Rows.uptoBulk (.slice l m) := by
  have := bulk_len16 l
  simp only [Rows.uptoBulk]
  omega
theorem bytes3_16 : Try.prog.bytesOf 3 = 8 := by kernel_rfl
theorem cellsT16 : Try.prog.cellsOf 24 = 2 := by kernel_rfl
section
variable {H : Type} {enc : TypeId × Value → H} {w : World} {base : Nat} {spare : Nat → Bool} {held : Bool}
theorem open_ints16 {fuel : Nat} {v : Value} {x : DataW H × List MemPlace} (h : DataW.trod enc Try.prog w base spare held fuel 22 [v] = some x) :
    ∃ S c xs, v = .slice S (xs : List Int).length c ∧ IntsR w S xs ∧ xs.length ≤ c ∧ (S = none → c = 0) ∧ xs.length ≤ 9223372036854775807 ∧ ((∀ n ∈ x.1.weights Try.prog 22, n ≤ reachBytes) → xs.length ≤ 17592186044416) ∧ xs.length ≤ Rows.uptoBulk x.1 := by
  rcases open_ints Try.underlying22 Try.underlying3 cells3 h with ⟨e, _⟩ | ⟨a, len, cap, zs, e, _, hl, hm, hz, hx0, hc, _⟩
  · refine ⟨none, 0, [], by simpa using e, fun hn => by simp at hn, Nat.le_refl _, fun _ => rfl, by simp, fun _ => by simp, by simp⟩
  · have hlz : len ≤ zs.length := by rw [hz]; split <;> omega
    have ht : (zs.take len).length = len := by rw [List.length_take]; omega
    refine ⟨some a, cap, zs.take len, by rw [ht]; simpa using e, fun hn => ?_, by omega, (fun g => by cases g), by unfold maxLen at hm; omega, fun hw => ?_, ?_⟩
    have h0 := hc 0 (by omega)
    have ha := spot_none (show w.cell? a = _ from by simpa [Addr.add] using h0)
    refine ⟨a.block, a.off, by rw [← ha], ?_, fun j x hx => ?_⟩
    · have := World.block_lt_of_cell? w _ (show w.cell? a = _ from by simpa [Addr.add] using h0)
      exact this
    · have hj : j < len := by have := (List.getElem?_eq_some_iff.1 hx).1; omega
      have := hc j (by omega)
      rw [ha, add_off] at this
      rw [this]
      rw [List.getElem?_take, if_pos hj] at hx
      rw [List.getD_eq_getElem?_getD, hx]; rfl
    · have := hw _ (by rw [hx0, DataW.weights.eq_5, Try.underlying22]; exact List.mem_cons_self ..)
      rw [bytes3_16] at this
      simp only [lits, List.length_map, List.length_take] at this
      rw [ht]; unfold reachBytes at this; omega
    · rw [hx0]
      refine Nat.le_trans (Nat.le_of_eq ?_) (bulk_slice16 _ _)
      simp only [lits, List.length_map, List.length_take]
theorem open_tape16 {r : Go.Reach} {b0 : Nat} {v : Value} {d : DataW H} {p : List MemPlace} (hv : Value.okWide Try.prog w r b0 24 v) (h : DataW.Trod enc Try.prog w base spare held 24 v d p) :
    ∃ (t : Tp) (A B : Option Addr) (c e : Nat), v = .agg #[.slice A t.log.length c, .slice B t.rest.length e] ∧ IntsR w A t.log ∧ IntsR w B t.rest ∧ (A = none → c = 0) ∧ (B = none → e = 0) ∧ t.log.length ≤ c ∧ t.rest.length ≤ e ∧
      ((∀ n ∈ d.weights Try.prog 24, n ≤ reachBytes) → t.log.length ≤ 17592186044416 ∧ t.rest.length ≤ 17592186044416) ∧ t.log.length + t.rest.length ≤ Rows.uptoBulk d := by
  obtain ⟨v0, v1, y0, y1, n, rfl, rfl, _, h0, h1⟩ := open_agg2 Try.underlying24 (by kernel_rfl) cellsT16 hv h
  obtain ⟨A, c, xs, rfl, k1, k2, k3, k4, k5, k6⟩ := open_ints16 h0
  obtain ⟨B, e, ys, rfl, l1, l2, l3, l4, l5, l6⟩ := open_ints16 h1
  refine ⟨⟨xs, ys⟩, A, B, c, e, rfl, k1, l1, k3, l3, k2, l2, fun hw => ⟨k5 fun n hn => hw n ?_, l5 fun n hn => hw n ?_⟩, ?_⟩
  · rw [DataW.weights.eq_6, Try.underlying24]
    exact DataW.weights_mem_each (ts := [22, 22]) (j := 0) rfl rfl n hn
  · rw [DataW.weights.eq_6, Try.underlying24]
    exact DataW.weights_mem_each (ts := [22, 22]) (j := 1) rfl rfl n hn
  · show xs.length + ys.length ≤ _
    simp only [Rows.uptoBulk, Rows.uptoBulkAll]
    omega
end
end Go.Proofs.Ytimmoaomhilaeaa
