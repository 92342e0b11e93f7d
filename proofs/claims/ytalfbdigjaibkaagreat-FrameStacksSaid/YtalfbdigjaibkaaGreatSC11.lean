/- The document's words on instructions: which have no argument, words, which may be, whether two lists are the same. -/
import Derived.Test.YtalfbdigjaibkaaGreatSB11
import Derived.Laws.EntriesVeiled
import Derived.Maps.AppendAt
import Derived.Deep.RegionWith
import Derived.Deep.DeepCutAuto
import Derived.Deep.AppendLies
import Derived.Deep.RegionHeld3
import Derived.Great.BuildSlice
import Derived.OwnWalk
namespace Go.Proofs.YtalfbdigjaibkaaGreat
open Go.RowKit
set_option maxRecDepth 100000
/-- a slice of instructions, read -/
def InsR (w : World) (A : Option Addr) (l : List In) : Prop :=
  0 < l.length → ∃ b off, A = some ⟨b, off, none⟩ ∧ b < w.heap.size ∧ ∀ i x, l[i]? = some x →
    w.cell? ⟨b, off + i * 2, none⟩ = some (.int .i64 x.op) ∧ w.cell? ⟨b, off + i * 2 + 1, none⟩ = some (.int .i64 x.a)
theorem InsR.below {w w' : World} {A : Option Addr} {l : List In} (h : InsR w A l) (hb : Below w.heap.size w w') : InsR w' A l := fun hn => by
  obtain ⟨b, off, rfl, hlt, hc⟩ := h hn
  refine ⟨b, off, rfl, Nat.lt_of_lt_of_le hlt hb.size, fun i a ha => ?_⟩
  obtain ⟨h0, h1⟩ := hc i a ha
  exact ⟨cell_later hb h0, cell_later hb h1⟩
theorem none_any11 (op : Int) (w : World) : Calls Tryz.prog 114 #[.int .i64 op] w fun e w' => e = .returned (.bool (no11 op)) ∧ w = w' := by
  have fin : ∀ b : Bool, no11 op = b → ∀ c : Bool, c = b → Ending.returned (.bool c) = .returned (.bool (no11 op)) := fun b h c k => by rw [h, k]
  have HF := hid fin
  clear fin
  by_cases h0 : op = 0
  · subst h0
    go_enter Tryz.func114, Tryz.ntmps114
    go_wp2_with fail
    go_ret
    exact ⟨HF.out true rfl _ rfl, rfl⟩
  by_cases h1 : op = 6
  · subst h1
    go_enter Tryz.func114, Tryz.ntmps114
    go_wp2_with fail
    go_ret
    exact ⟨HF.out true rfl _ rfl, rfl⟩
  by_cases h2 : op = 7
  · subst h2
    go_enter Tryz.func114, Tryz.ntmps114
    go_wp2_with fail
    go_ret
    exact ⟨HF.out true rfl _ rfl, rfl⟩
  by_cases h3 : op = 14
  · subst h3
    go_enter Tryz.func114, Tryz.ntmps114
    go_wp2_with fail
    go_ret
    exact ⟨HF.out true rfl _ rfl, rfl⟩
  by_cases h4 : op = 15
  · subst h4
    go_enter Tryz.func114, Tryz.ntmps114
    go_wp2_with fail
    go_ret
    exact ⟨HF.out true rfl _ rfl, rfl⟩
  by_cases h5 : op = 18
  · subst h5
    go_enter Tryz.func114, Tryz.ntmps114
    go_wp2_with fail
    go_ret
    exact ⟨HF.out true rfl _ rfl, rfl⟩
  have b0 : (op == 0) = false := beq_eq_false_iff_ne.2 h0
  have b1 : (op == 6) = false := beq_eq_false_iff_ne.2 h1
  have b2 : (op == 7) = false := beq_eq_false_iff_ne.2 h2
  have b3 : (op == 14) = false := beq_eq_false_iff_ne.2 h3
  have b4 : (op == 15) = false := beq_eq_false_iff_ne.2 h4
  have b5 : (op == 18) = false := beq_eq_false_iff_ne.2 h5
  have HN : Hid (no11 op = false) := by
    show _ = _
    unfold no11
    rw [decide_eq_false h0, decide_eq_false h1, decide_eq_false h2, decide_eq_false h3, decide_eq_false h4, decide_eq_false h5]; rfl
  go_enter Tryz.func114, Tryz.ntmps114
  go_wp2_with fail
  go_ret
  exact ⟨HF.out false HN.out _ (by simp), rfl⟩
end Go.Proofs.YtalfbdigjaibkaaGreat
