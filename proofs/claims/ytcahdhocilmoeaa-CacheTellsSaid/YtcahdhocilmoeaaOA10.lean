/- An argument opened: a size, and askings. -/
import Derived.Test.YtcahdhocilmoeaaOP
namespace Go.Proofs.Ytcahdhocilmoeaa
open Go.ChangeShapes Go.WideShapes Go.RowKit Go.Deep Go.Joins
set_option maxRecDepth 100000
/-- an asking -/
structure Ak where
  c : Int
  s : Int
  fl : Bool
  ot : Bool
  deriving Inhabited
def AksR (w : World) (A : Option Addr) (l : List Ak) : Prop :=
  0 < l.length → ∃ b off, A = some ⟨b, off, none⟩ ∧ b < w.heap.size ∧ ∀ i a, l[i]? = some a →
    w.cell? ⟨b, off + i * 4, none⟩ = some (.int .i64 a.c) ∧ w.cell? ⟨b, off + i * 4 + 1, none⟩ = some (.int .i64 a.s) ∧ w.cell? ⟨b, off + i * 4 + 2, none⟩ = some (.bool a.fl) ∧ w.cell? ⟨b, off + i * 4 + 3, none⟩ = some (.bool a.ot)
theorem AksR.below {w w' : World} {A : Option Addr} {l : List Ak} (h : AksR w A l) (hb : Below w.heap.size w w') : AksR w' A l := fun hn => by
  obtain ⟨b, off, rfl, hlt, hc⟩ := h hn
  refine ⟨b, off, rfl, Nat.lt_of_lt_of_le hlt hb.size, fun i a ha => ?_⟩
  obtain ⟨h0, h1, h2, h3⟩ := hc i a ha
  exact ⟨cell_later hb h0, cell_later hb h1, cell_later hb h2, cell_later hb h3⟩
theorem cells50 : Try.prog.cellsOf 50 = 2 := by kernel_rfl
theorem cells56 : Try.prog.cellsOf 56 = 4 := by kernel_rfl
section
variable {H : Type} {enc : TypeId × Value → H} {w : World} {base : Nat} {spare : Nat → Bool} {held : Bool}
theorem open_ak {fuel : Nat} {cs : List Value} {x : DataW H × List MemPlace} (h : DataW.trod enc Try.prog w base spare held fuel 56 cs = some x) :
    ∃ (a : Ak), cs = [.int .i64 a.c, .int .i64 a.s, .bool a.fl, .bool a.ot] := by
  obtain ⟨xs, n, _, _, hl, hxl, hf⟩ := DataW.trod_struct Try.underlying56 h
  rw [cells56] at hl
  match cs, hl with
  | [v0, v1, v2, v3], _ =>
    have h0 : DataW.trod enc Try.prog w base spare held n 3 (([v0, v1, v2, v3].drop 0).take (Try.prog.cellsOf 3)) = xs[0]? := hf 0 _ rfl
    have h1 : DataW.trod enc Try.prog w base spare held n 3 (([v0, v1, v2, v3].drop 1).take (Try.prog.cellsOf 3)) = xs[1]? := hf 1 _ rfl
    have h2 : DataW.trod enc Try.prog w base spare held n 4 (([v0, v1, v2, v3].drop 2).take (Try.prog.cellsOf 4)) = xs[2]? := hf 2 _ rfl
    have h3 : DataW.trod enc Try.prog w base spare held n 4 (([v0, v1, v2, v3].drop 3).take (Try.prog.cellsOf 4)) = xs[3]? := hf 3 _ rfl
    have c4 : Try.prog.cellsOf 4 = 1 := by kernel_rfl
    have hi : ∀ i (hi : i < 4), xs[i]? = some (xs[i]'(by rw [hxl]; exact hi)) := fun i hi => List.getElem?_eq_getElem _
    simp only [cells3, c4, List.drop_zero, List.drop_succ_cons, List.take_succ_cons, List.take_zero] at h0 h1 h2 h3
    rw [hi 0 (by omega)] at h0
    rw [hi 1 (by omega)] at h1
    rw [hi 2 (by omega)] at h2
    rw [hi 3 (by omega)] at h3
    obtain ⟨a0, e0, _⟩ := DataW.trod_int Try.underlying3 h0
    obtain ⟨a1, e1, _⟩ := DataW.trod_int Try.underlying3 h1
    obtain ⟨a2, e2, _⟩ := DataW.trod_bool Try.underlying4 h2
    obtain ⟨a3, e3, _⟩ := DataW.trod_bool Try.underlying4 h3
    simp only [List.cons.injEq, and_true] at e0 e1 e2 e3
    subst e0 e1 e2 e3
    exact ⟨⟨a0, a1, a2, a3⟩, rfl⟩
theorem open_aks {fuel : Nat} {v : Value} {x : DataW H × List MemPlace} (h : DataW.trod enc Try.prog w base spare held fuel 48 [v] = some x) :
    ∃ (A : Option Addr) (c : Nat) (l : List Ak), v = .slice A l.length c ∧ AksR w A l ∧ l.length ≤ 9223372036854775807 := by
  rcases open_slice Try.underlying48 h with ⟨e, _⟩ | ⟨a, len, cap, m, n, D, Pl, e, _, hl, hm, hmm, _, hx⟩
  · exact ⟨none, 0, [], by simpa using e, fun hn => by simp at hn, by simp⟩
  · have hlm : len ≤ m := by rw [hmm]; split <;> omega
    rw [cells56] at hx
    have each : ∀ i, i < len → ∃ q : Ak, ∀ j u, ([.int .i64 q.c, .int .i64 q.s, .bool q.fl, .bool q.ot] : List Value)[j]? = some u → w.cell? ((a.add (i * 4)).add j) = some u := by
      intro i hi
      obtain ⟨cs', h1, h2⟩ := hx i (by omega)
      obtain ⟨o, rfl⟩ := open_ak h2
      obtain ⟨_, _, hcell⟩ := World.cells?_some h1
      refine ⟨o, fun j u hu => ?_⟩
      have hj : j < 4 := (List.getElem?_eq_some_iff.1 hu).1
      rw [hcell j hj]; exact hu
    obtain ⟨q, hq⟩ := choose_lt each
    have hll : ((List.range len).map q).length = len := by simp
    refine ⟨some a, cap, (List.range len).map q, by rw [hll]; simpa using e, fun hn => ?_, by rw [hll]; unfold maxLen at hm; omega⟩
    rw [hll] at hn
    have c0 := hq 0 hn 0 _ rfl
    have c0' : w.cell? a = some (.int .i64 (q 0).c) := by simpa [Addr.add] using c0
    have ha := spot_none c0'
    refine ⟨a.block, a.off, by rw [← ha], World.block_lt_of_cell? w _ c0', fun i o ho => ?_⟩
    have hi : i < len := by have := (List.getElem?_eq_some_iff.1 ho).1; simpa using this
    obtain rfl : q i = o := by
      rw [List.getElem?_map, List.getElem?_range hi] at ho
      exact Option.some.inj ho
    have k0 := hq i hi
    rw [ha] at k0
    simp only [add_off] at k0
    exact ⟨k0 0 _ rfl, k0 1 _ rfl, k0 2 _ rfl, k0 3 _ rfl⟩
theorem open_asks {r : Reach} {b0 : Nat} {v : Value} {d : DataW H} {p : List MemPlace} (hv : Value.okWide Try.prog w r b0 50 v) (h : DataW.Trod enc Try.prog w base spare held 50 v d p) :
    ∃ (z : Int) (A : Option Addr) (c : Nat) (l : List Ak), v = .agg #[.int .i64 z, .slice A l.length c] ∧ AksR w A l ∧ l.length ≤ 9223372036854775807 := by
  obtain ⟨v0, v1, y0, y1, n, rfl, _, _, h0, h1⟩ := open_agg2 Try.underlying50 (by kernel_rfl) cells50 hv h
  obtain ⟨z, e0, _⟩ := DataW.trod_int Try.underlying3 h0
  obtain ⟨A, c, l, rfl, k1, k2⟩ := open_aks h1
  simp only [List.cons.injEq, and_true] at e0
  subst e0
  exact ⟨z, A, c, l, rfl, k1, k2⟩
end
end Go.Proofs.Ytcahdhocilmoeaa
