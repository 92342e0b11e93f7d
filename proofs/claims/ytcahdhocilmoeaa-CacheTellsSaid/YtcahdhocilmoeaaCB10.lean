/- The program's cache: whether it is made, how many hits, where a place lies, a new one, one that is emptied. -/
import Derived.Test.YtcahdhocilmoeaaCA10
namespace Go.Proofs.Ytcahdhocilmoeaa
open Go.RowKit
set_option maxRecDepth 100000
abbrev pp10 (p : Nat) : Value := .pointer (some ⟨p, 0, none⟩)
theorem made_nil (w : World) : Calls Try.prog 67 #[.pointer none] w fun e w' => e = .returned (.bool false) ∧ w = w' := by
  go_enter Try.func67, Try.ntmps67
  go_wp2_with fail
  go_ret
  exact ⟨rfl, rfl⟩
theorem made_any {w : World} {p q : Nat} {L : List En} {n m : Int} (h : Ca w p q L n m) (hl : 1 ≤ L.length) :
    Calls Try.prog 67 #[pp10 p] w fun e w' => e = .returned (.bool true) ∧ w = w' := by
  have c0 := h.box.cell 0
  simp only [List.getElem?_toArray, List.getElem?_cons_zero] at c0
  have hl0 : 0 < L.length := by omega
  have hl1 : (0 : Int) < (L.length : Int) := by omega
  clear h
  go_enter Try.func67, Try.ntmps67
  go_wp2_with fail
  go_ret
  exact ⟨rfl, rfl⟩
theorem hits_any {w : World} {p q : Nat} {L : List En} {n m : Int} (h : Ca w p q L n m) (hl : 1 ≤ L.length) :
    Calls Try.prog 43 #[pp10 p] w fun e w' => e = .returned (.tuple #[.int .i64 n, .int .i64 m]) ∧ Below w.heap.size w w' := by
  have c1 := h.box.cell 1
  have c2 := h.box.cell 2
  simp only [List.getElem?_toArray, List.getElem?_cons_zero, List.getElem?_cons_succ] at c1 c2
  have HM := hid (made_any h hl)
  clear h
  go_enter Try.func43, Try.ntmps43
  go_wp2_with fail
  refine HM.out.mono ?_
  rintro e w1 ⟨rfl, rfl⟩
  clear HM
  go_wp2_with fail
  go_quiet (fail)
  go_wp2_with fail
  go_ret2
  exact ⟨rfl, below_drewN _ _⟩
end Go.Proofs.Ytcahdhocilmoeaa
