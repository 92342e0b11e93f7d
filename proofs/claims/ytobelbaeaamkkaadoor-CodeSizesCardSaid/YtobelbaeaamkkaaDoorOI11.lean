/- An argument opened: a slice of instructions. -/
import Derived.Test.YtobelbaeaamkkaaDoorSC11
import Derived.Lib.SmallJoins
import Derived.Deep.Slices
import Derived.Deep.Fields
import Derived.ProofKit
import Derived.OpenShut
namespace Go.Proofs.YtobelbaeaamkkaaDoor
open Go.ChangeShapes Go.WideShapes Go.RowKit Go.Deep Go.Joins
set_option maxRecDepth 100000
instance : Inhabited In := ⟨⟨0, 0⟩⟩
theorem cells3 : Tryd.prog.cellsOf 3 = 1 := by kernel_rfl
theorem spot_none {w : World} {a : Addr} {v : Value} (h : w.cell? a = some v) : a = ⟨a.block, a.off, none⟩ := by
  obtain ⟨b, o, s⟩ := a
  cases s with
  | none => rfl
  | some t =>
    exfalso
    unfold World.cell? at h
    split at h
    · simp at h
    · cases h
theorem add_off (b o i : Nat) : (⟨b, o, none⟩ : Addr).add i = ⟨b, o + i, none⟩ := by
  unfold Addr.add
  split
  · rename_i e; subst e; rfl
  · rfl
theorem cells_instr11 : Tryd.prog.cellsOf 34 = 2 := by kernel_rfl
section
variable {H : Type} {enc : TypeId × Value → H} {w : World} {base : Nat} {spare : Nat → Bool} {held : Bool}
theorem open_in11 {fuel : Nat} {cs : List Value} {x : DataW H × List MemPlace} (h : DataW.trod enc Tryd.prog w base spare held fuel 34 cs = some x) :
    ∃ (a : In), cs = [.int .i64 a.op, .int .i64 a.a] := by
  obtain ⟨xs, n, _, _, hl, hxl, hf⟩ := DataW.trod_struct Tryd.underlying34 h
  rw [cells_instr11] at hl
  match cs, hl with
  | [v0, v1], _ =>
    have h0 : DataW.trod enc Tryd.prog w base spare held n 3 (([v0, v1].drop 0).take (Tryd.prog.cellsOf 3)) = xs[0]? := hf 0 _ rfl
    have h1 : DataW.trod enc Tryd.prog w base spare held n 3 (([v0, v1].drop 1).take (Tryd.prog.cellsOf 3)) = xs[1]? := hf 1 _ rfl
    have hi : ∀ i (hi : i < 2), xs[i]? = some (xs[i]'(by rw [hxl]; exact hi)) := fun i hi => List.getElem?_eq_getElem _
    simp only [cells3, List.drop_zero, List.drop_succ_cons, List.take_succ_cons, List.take_zero] at h0 h1
    rw [hi 0 (by omega)] at h0
    rw [hi 1 (by omega)] at h1
    obtain ⟨a0, e0, _⟩ := DataW.trod_int Tryd.underlying3 h0
    obtain ⟨a1, e1, _⟩ := DataW.trod_int Tryd.underlying3 h1
    simp only [List.cons.injEq, and_true] at e0 e1
    subst e0 e1
    exact ⟨⟨a0, a1⟩, rfl⟩
theorem open_ins_r11 {fuel : Nat} {v : Value} {x : DataW H × List MemPlace} (h : DataW.trod enc Tryd.prog w base spare held fuel 22 [v] = some x) :
    ∃ (A : Option Addr) (c : Nat) (l : List In), v = .slice A l.length c ∧ InsR w A l ∧ (A = none → c = 0) ∧ l.length ≤ 9223372036854775807 := by
  rcases open_slice Tryd.underlying22 h with ⟨e, _⟩ | ⟨a, len, cap, m, n, D, Pl, e, _, hl, hm, hmm, _, hx⟩
  · exact ⟨none, 0, [], by simpa using e, fun hn => by simp at hn, fun _ => rfl, by simp⟩
  · have hlm : len ≤ m := by rw [hmm]; split <;> omega
    rw [cells_instr11] at hx
    have each : ∀ i, i < len → ∃ q : In, ∀ j u, ([.int .i64 q.op, .int .i64 q.a] : List Value)[j]? = some u → w.cell? ((a.add (i * 2)).add j) = some u := by
      intro i hi
      obtain ⟨cs', h1, h2⟩ := hx i (by omega)
      obtain ⟨o, rfl⟩ := open_in11 h2
      obtain ⟨_, _, hcell⟩ := World.cells?_some h1
      refine ⟨o, fun j u hu => ?_⟩
      have hj : j < 2 := (List.getElem?_eq_some_iff.1 hu).1
      rw [hcell j hj]; exact hu
    obtain ⟨q, hq⟩ := choose_lt each
    have hll : ((List.range len).map q).length = len := by simp
    refine ⟨some a, cap, (List.range len).map q, by rw [hll]; simpa using e, fun hn => ?_, (fun g => by cases g), by rw [hll]; unfold maxLen at hm; omega⟩
    rw [hll] at hn
    have c0 := hq 0 hn 0 _ rfl
    have c0' : w.cell? a = some (.int .i64 (q 0).op) := by simpa [Addr.add] using c0
    have ha := spot_none c0'
    refine ⟨a.block, a.off, by rw [← ha], World.block_lt_of_cell? w _ c0', fun i o ho => ?_⟩
    have hi : i < len := by have := (List.getElem?_eq_some_iff.1 ho).1; simpa using this
    obtain rfl : q i = o := by
      rw [List.getElem?_map, List.getElem?_range hi] at ho
      exact Option.some.inj ho
    have k0 := hq i hi
    rw [ha] at k0
    simp only [add_off] at k0
    exact ⟨k0 0 _ rfl, k0 1 _ rfl⟩
theorem open_instrs11 {r : Reach} {b0 : Nat} {v : Value} {d : DataW H} {p : List MemPlace} (hv : Value.okWide Tryd.prog w r b0 22 v) (h : DataW.Trod enc Tryd.prog w base spare held 22 v d p) :
    ∃ (A : Option Addr) (c : Nat) (l : List In), v = .slice A l.length c ∧ InsR w A l ∧ (A = none → c = 0) ∧ l.length ≤ 9223372036854775807 := by
  obtain ⟨a, len, cap, rfl⟩ := okWide_slice Tryd.underlying22 hv
  obtain ⟨n, hn⟩ := h
  exact open_ins_r11 hn
end
end Go.Proofs.YtobelbaeaamkkaaDoor
