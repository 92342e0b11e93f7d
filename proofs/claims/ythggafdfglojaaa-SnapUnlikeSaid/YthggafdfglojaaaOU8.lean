/- An argument opened: an array of two lists of ints. -/
import Derived.Test.YthggafdfglojaaaOP
namespace Go.Proofs.Ythggafdfglojaaa
open Go.ChangeShapes Go.WideShapes Go.RowKit Go.Deep Go.Joins
set_option maxRecDepth 100000
theorem cells_rows8 : Try.prog.cellsOf 57 = 2 := by kernel_rfl
theorem cells_row8 : Try.prog.cellsOf 44 = 1 := by kernel_rfl
theorem okWide_array8 {P : Program} {t e : TypeId} {n : Nat} {w : World} {r : Reach} {base : Nat} {v : Value} (ht : P.underlying t = some (.array n e)) (h : Value.okWide P w r base t v) : ∃ cs, v = .agg cs ∧ cs.size = P.cellsOf t := by
  unfold Value.okWide at h
  rw [ht] at h
  cases v <;> simp_all
section
variable {H : Type} {enc : TypeId × Value → H} {w : World} {base : Nat} {spare : Nat → Bool} {held : Bool}
theorem open_rows8 {r : Reach} {b0 : Nat} {v : Value} {d : DataW H} {p : List MemPlace} (hv : Value.okWide Try.prog w r b0 57 v) (h : DataW.Trod enc Try.prog w base spare held 57 v d p) :
    ∃ S c xs T e ys, v = .agg #[.slice S (xs : List Int).length c, .slice T (ys : List Int).length e] ∧ IntsR w S xs ∧ xs.length ≤ 9223372036854775807 ∧ IntsR w T ys ∧ ys.length ≤ 9223372036854775807 := by
  obtain ⟨cs, rfl, hsz⟩ := okWide_array8 Try.underlying57 hv
  rw [cells_rows8] at hsz
  obtain ⟨c0, c1, rfl⟩ := array2 hsz
  obtain ⟨fuel, hf⟩ := h
  obtain ⟨xs, m, _, _, _, hxl, hx⟩ := DataW.trod_array Try.underlying57 hf
  have g0 := hx 0 (by omega)
  have g1 := hx 1 (by omega)
  rw [cells_row8] at g0 g1
  simp [Value.cells] at g0 g1
  rw [List.getElem?_eq_getElem (by omega)] at g0 g1
  obtain ⟨S, c, xs, rfl, k1, -, -, k4⟩ := open_ints_r g0
  obtain ⟨T, e, ys, rfl, j1, -, -, j4⟩ := open_ints_r g1
  exact ⟨S, c, xs, T, e, ys, rfl, k1, k4, j1, j4⟩
end
end Go.Proofs.Ythggafdfglojaaa
