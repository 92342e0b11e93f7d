/- What a context begins with, among the arguments, opened. -/
import Derived.Test.YtalfbdigjaibkaaGreatOP0
namespace Go.Proofs.YtalfbdigjaibkaaGreat
open Go.ChangeShapes Go.WideShapes Go.RowKit Go.Deep Go.Joins
set_option maxRecDepth 100000
theorem cells_begin12 : Tryz.prog.cellsOf 52 = 5 := by kernel_rfl
theorem cells_ints12 : Tryz.prog.cellsOf 30 = 1 := by kernel_rfl
theorem array5 {α : Type} {a : Array α} (h : a.size = 5) : ∃ x y z u v, a = #[x, y, z, u, v] := by
  obtain ⟨l⟩ := a
  match l, h with
  | [x, y, z, u, v], _ => exact ⟨x, y, z, u, v, rfl⟩
section
variable {H : Type} {enc : TypeId × Value → H} {w : World} {base : Nat} {spare : Nat → Bool} {held : Bool}
theorem open_begin12 {r : Reach} {b0 : Nat} {v : Value} {d : DataW H} {p : List MemPlace} (hv : Value.okWide Tryz.prog w r b0 52 v) (h : DataW.Trod enc Tryz.prog w base spare held 52 v d p) :
    ∃ (s m k o : Int) (xs : List Int) (R : Option Addr) (e : Nat), v = .agg #[.int .i64 s, .int .i64 m, .int .i64 k, .int .i64 o, .slice R xs.length e] ∧ IntsR w R xs ∧ (R = none → e = 0) := by
  obtain ⟨cs, rfl, hsz⟩ := okWide_struct Tryz.underlying52 hv
  obtain ⟨v0, v1, v2, v3, v4, rfl⟩ := array5 (hsz.trans cells_begin12)
  obtain ⟨fuel, hf⟩ := h
  obtain ⟨xs, n, _, hx, hl, hxl, hf⟩ := DataW.trod_struct Tryz.underlying52 hf
  have h0 : DataW.trod enc Tryz.prog w base spare held n 3 (([v0, v1, v2, v3, v4].drop 0).take (Tryz.prog.cellsOf 3)) = xs[0]? := hf 0 _ rfl
  have h1 : DataW.trod enc Tryz.prog w base spare held n 3 (([v0, v1, v2, v3, v4].drop 1).take (Tryz.prog.cellsOf 3)) = xs[1]? := hf 1 _ rfl
  have h2 : DataW.trod enc Tryz.prog w base spare held n 3 (([v0, v1, v2, v3, v4].drop 2).take (Tryz.prog.cellsOf 3)) = xs[2]? := hf 2 _ rfl
  have h3 : DataW.trod enc Tryz.prog w base spare held n 3 (([v0, v1, v2, v3, v4].drop 3).take (Tryz.prog.cellsOf 3)) = xs[3]? := hf 3 _ rfl
  have h4 : DataW.trod enc Tryz.prog w base spare held n 30 (([v0, v1, v2, v3, v4].drop 4).take (Tryz.prog.cellsOf 30)) = xs[4]? := hf 4 _ rfl
  have hi : ∀ i (hi : i < 5), xs[i]? = some (xs[i]'(by rw [hxl]; exact hi)) := fun i hi => List.getElem?_eq_getElem _
  simp only [cells3, cells_ints12, List.drop_zero, List.drop_succ_cons, List.take_succ_cons, List.take_zero] at h0 h1 h2 h3 h4
  rw [hi 0 (by omega)] at h0
  rw [hi 1 (by omega)] at h1
  rw [hi 2 (by omega)] at h2
  rw [hi 3 (by omega)] at h3
  rw [hi 4 (by omega)] at h4
  obtain ⟨a0, e0, _⟩ := DataW.trod_int Tryz.underlying3 h0
  obtain ⟨a1, e1, _⟩ := DataW.trod_int Tryz.underlying3 h1
  obtain ⟨a2, e2, _⟩ := DataW.trod_int Tryz.underlying3 h2
  obtain ⟨a3, e3, _⟩ := DataW.trod_int Tryz.underlying3 h3
  obtain ⟨S, e, zs, e4, j1, -, j3, -⟩ := open_ints_r h4
  simp only [List.cons.injEq, and_true] at e0 e1 e2 e3
  subst e0 e1 e2 e3
  first | subst e4 | (simp only [List.cons.injEq, and_true] at e4; subst e4)
  exact ⟨a0, a1, a2, a3, zs, S, e, rfl, j1, j3⟩
end
end Go.Proofs.YtalfbdigjaibkaaGreat
