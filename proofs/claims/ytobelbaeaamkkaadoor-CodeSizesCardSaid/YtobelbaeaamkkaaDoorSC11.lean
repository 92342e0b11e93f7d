/- The document's words on instructions: which have no argument, words, which may be, whether two lists are the same. -/
import Derived.Test.YtobelbaeaamkkaaDoorSB11
import Derived.Laws.EntriesVeiled
import Derived.Maps.AppendAt
import Derived.Deep.RegionWith
import Derived.Deep.DeepCutAuto
import Derived.Deep.AppendLies
import Derived.Deep.RegionHeld3
import Derived.Great.BuildSlice
import Derived.OwnWalk
namespace Go.Proofs.YtobelbaeaamkkaaDoor
open Go.RowKit
set_option maxRecDepth 100000
/-- a slice of instructions, read -/
def InsR (w : World) (A : Option Addr) (l : List In) : Prop :=
  0 < l.length → ∃ b off, A = some ⟨b, off, none⟩ ∧ b < w.heap.size ∧ ∀ i x, l[i]? = some x →
    w.cell? ⟨b, off + i * 2, none⟩ = some (.int .i64 x.op) ∧ w.cell? ⟨b, off + i * 2 + 1, none⟩ = some (.int .i64 x.a)
theorem InsR.below {w w' : World} {A : Option Addr} {l : List In} (h : InsR w A l) (hb : Below w.heap.size w w') : InsR w' A l := fun hn => by
  obtain ⟨b, off, rfl, hlt, hc⟩ := h hn
  refine ⟨b, off, rfl, Nat.lt_of_lt_of_le hlt hb.size, fun i a ha => ?_⟩
  obtain ⟨h0, h1⟩ := hc i a ha
  exact ⟨cell_later hb h0, cell_later hb h1⟩
theorem none_any11 (op : Int) (w : World) : Calls Tryd.prog 35 #[.int .i64 op] w fun e w' => e = .returned (.bool (no11 op)) ∧ w = w' := by
  have fin : ∀ b : Bool, no11 op = b → ∀ c : Bool, c = b → Ending.returned (.bool c) = .returned (.bool (no11 op)) := fun b h c k => by rw [h, k]
  have HF := hid fin
  clear fin
  by_cases h0 : op = 0
  · subst h0
    go_enter Tryd.func35, Tryd.ntmps35
    go_wp2_with fail
    go_ret
    exact ⟨HF.out true rfl _ rfl, rfl⟩
  by_cases h1 : op = 6
  · subst h1
    go_enter Tryd.func35, Tryd.ntmps35
    go_wp2_with fail
    go_ret
    exact ⟨HF.out true rfl _ rfl, rfl⟩
  by_cases h2 : op = 7
  · subst h2
    go_enter Tryd.func35, Tryd.ntmps35
    go_wp2_with fail
    go_ret
    exact ⟨HF.out true rfl _ rfl, rfl⟩
  by_cases h3 : op = 14
  · subst h3
    go_enter Tryd.func35, Tryd.ntmps35
    go_wp2_with fail
    go_ret
    exact ⟨HF.out true rfl _ rfl, rfl⟩
  by_cases h4 : op = 15
  · subst h4
    go_enter Tryd.func35, Tryd.ntmps35
    go_wp2_with fail
    go_ret
    exact ⟨HF.out true rfl _ rfl, rfl⟩
  by_cases h5 : op = 18
  · subst h5
    go_enter Tryd.func35, Tryd.ntmps35
    go_wp2_with fail
    go_ret
    exact ⟨HF.out true rfl _ rfl, rfl⟩
  have b0 : (op == 0) = false := beq_eq_false_iff_ne.2 h0
  have b1 : (op == 6) = false := beq_eq_false_iff_ne.2 h1
  have b2 : (op == 7) = false := beq_eq_false_iff_ne.2 h2
  have b3 : (op == 14) = false := beq_eq_false_iff_ne.2 h3
  have b4 : (op == 15) = false := beq_eq_false_iff_ne.2 h4
  have b5 : (op == 18) = false := beq_eq_false_iff_ne.2 h5
  have HN : Hid (no11 op = false) := by
    show _ = _
    unfold no11
    rw [decide_eq_false h0, decide_eq_false h1, decide_eq_false h2, decide_eq_false h3, decide_eq_false h4, decide_eq_false h5]; rfl
  go_enter Tryd.func35, Tryd.ntmps35
  go_wp2_with fail
  go_ret
  exact ⟨HF.out false HN.out _ (by simp), rfl⟩
def wdC11 : Array Value := #[.string ⟨#[115, 101, 108, 102]⟩, .string ⟨#[108, 105, 116]⟩, .string ⟨#[116, 101, 109, 112]⟩, .string ⟨#[102, 105, 101, 108, 100]⟩, .string ⟨#[115, 101, 116, 116, 101, 109, 112]⟩, .string ⟨#[115, 101, 116, 102, 105, 101, 108, 100]⟩, .string ⟨#[112, 111, 112]⟩, .string ⟨#[100, 117, 112]⟩, .string ⟨#[115, 101, 110, 100]⟩, .string ⟨#[115, 117, 112, 101, 114]⟩, .string ⟨#[106, 117, 109, 112]⟩, .string ⟨#[105, 102, 116, 114, 117, 101]⟩, .string ⟨#[105, 102, 102, 97, 108, 115, 101]⟩, .string ⟨#[98, 108, 111, 99, 107]⟩, .string ⟨#[114, 101, 116, 117, 114, 110]⟩, .string ⟨#[104, 111, 109, 101]⟩, .string ⟨#[111, 117, 116, 101, 114]⟩, .string ⟨#[115, 101, 116, 111, 117, 116, 101, 114]⟩, .string ⟨#[116, 104, 105, 115]⟩]
theorem wdC_at11 : ∀ (k : Nat), k < 19 → wdC11[k]? = some (.string (str (wd11 (k : Int))))
  | 0, _ => rfl
  | 1, _ => rfl
  | 2, _ => rfl
  | 3, _ => rfl
  | 4, _ => rfl
  | 5, _ => rfl
  | 6, _ => rfl
  | 7, _ => rfl
  | 8, _ => rfl
  | 9, _ => rfl
  | 10, _ => rfl
  | 11, _ => rfl
  | 12, _ => rfl
  | 13, _ => rfl
  | 14, _ => rfl
  | 15, _ => rfl
  | 16, _ => rfl
  | 17, _ => rfl
  | 18, _ => rfl
  | k + 19, h => by omega
set_option maxHeartbeats 1000000 in
theorem word_any11 (k : Nat) (hk : k < 19) (w : World) : Calls Tryd.prog 42 #[.int .i64 (k : Int)] w fun e w' => e = .returned (.string (str (wd11 (k : Int)))) ∧ Below w.heap.size w w' := by
  have hk1 : (k : Int) < 19 := by omega
  have hk0 : (0 : Int) ≤ (k : Int) := by omega
  have c := wdC_at11 k hk
  obtain ⟨t, ht⟩ : ∃ t, t = str (wd11 (k : Int)) := ⟨_, rfl⟩
  rw [← ht] at c ⊢
  have HC : Hid (wdC11.toList[k]? = some (.string t)) := by show _ = _; rw [Array.getElem?_toList]; exact c
  clear ht c
  go_enter Tryd.func42, Tryd.ntmps42
  go_wp2_with fail
  go_ret
  have hk2 : k < wdC11.toList.length := hk
  have hc := HC.out
  rw [List.getElem?_eq_getElem hk2] at hc
  refine ⟨?_, below_alloc _ _⟩
  show Ending.returned (wdC11.toList[k]'hk2) = _
  rw [Option.some.inj hc]
end Go.Proofs.YtobelbaeaamkkaaDoor
