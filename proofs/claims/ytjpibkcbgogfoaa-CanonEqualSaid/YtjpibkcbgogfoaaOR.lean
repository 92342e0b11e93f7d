/- A heap with roots among the arguments, opened. -/
import Derived.Test.YtjpibkcbgogfoaaOP
namespace Go.Proofs.Ytjpibkcbgogfoaa
open Go.ChangeShapes Go.WideShapes Go.RowKit Go.Deep Go.Joins
set_option maxRecDepth 100000
theorem cells53 : Try.prog.cellsOf 53 = 4 := by kernel_rfl
theorem cells44 : Try.prog.cellsOf 44 = 1 := by kernel_rfl
theorem cells22 : Try.prog.cellsOf 22 = 1 := by kernel_rfl
theorem array4 {α : Type} {a : Array α} (h : a.size = 4) : ∃ x y z u, a = #[x, y, z, u] := by
  obtain ⟨l⟩ := a
  match l, h with
  | [x, y, z, u], _ => exact ⟨x, y, z, u, rfl⟩
section
variable {H : Type} {enc : TypeId × Value → H} {w : World} {base : Nat} {spare : Nat → Bool} {held : Bool}
theorem open_heap_cells {fuel : Nat} {v0 v1 v2 : Value} {x : DataW H × List MemPlace} (h : DataW.trod enc Try.prog w base spare held fuel 24 [v0, v1, v2] = some x) :
    ∃ (hp : Hp) (A : Option Addr) (c : Nat), v0 = .slice A hp.objs.length c ∧ v1 = .int .i64 hp.cap ∧ v2 = .int .i64 hp.last ∧ ObsR w A hp.objs ∧ hp.Fit := by
  obtain ⟨y0, y1, y2, n, _, _, h0, h1, h2⟩ := trod_struct3 Try.underlying24 h
  simp only [cells22, cells3, List.drop_zero, List.drop_succ_cons, List.take_succ_cons, List.take_zero] at h0 h1 h2
  obtain ⟨A, c, os, rfl, k1, k2, k3⟩ := open_objs h0
  obtain ⟨a1, e1, _⟩ := DataW.trod_int Try.underlying3 h1
  obtain ⟨a2, e2, _⟩ := DataW.trod_int Try.underlying3 h2
  simp only [List.cons.injEq, and_true] at e1 e2
  subst e1 e2
  exact ⟨⟨os, a1, a2⟩, A, c, rfl, rfl, rfl, k1, k2, k3⟩
theorem open_rooted {r : Reach} {b0 : Nat} {v : Value} {d : DataW H} {p : List MemPlace} (hv : Value.okWide Try.prog w r b0 53 v) (h : DataW.Trod enc Try.prog w base spare held 53 v d p) :
    ∃ (hp : Hp) (A : Option Addr) (c : Nat) (xs : List Int) (R : Option Addr) (e : Nat), v = .agg #[.slice A hp.objs.length c, .int .i64 hp.cap, .int .i64 hp.last, .slice R xs.length e] ∧ ObsR w A hp.objs ∧ hp.Fit ∧ IntsR w R xs ∧ (R = none → e = 0) ∧ xs.length ≤ 9223372036854775807 := by
  obtain ⟨cs, rfl, hsz⟩ := okWide_struct Try.underlying53 hv
  obtain ⟨c0, c1, c2, c3, rfl⟩ := array4 (hsz.trans cells53)
  obtain ⟨fuel, hf⟩ := h
  obtain ⟨y0, y1, n, _, _, h0, h1⟩ := trod_struct2 Try.underlying53 hf
  simp only [Value.cells, cells24, cells44, List.drop_zero, List.drop_succ_cons, List.take_succ_cons, List.take_zero] at h0 h1
  obtain ⟨hp, A, c, rfl, rfl, rfl, k1, k2⟩ := open_heap_cells h0
  obtain ⟨S, e, xs, e0, j1, _, j3, j4⟩ := open_ints_r h1
  first | subst e0 | (simp only [List.cons.injEq, and_true] at e0; subst e0)
  exact ⟨hp, A, c, xs, S, e, rfl, k1, k2, j1, j3, j4⟩
end
end Go.Proofs.Ytjpibkcbgogfoaa
