/- ValueTexts' walk: it returns true, whatever two numbers come, where the table of powers of ten stands. -/
import Derived.Test.YtmapdimhgpdajaaDoorL
namespace Go.Proofs.YtmapdimhgpdajaaDoor
open Go.RowKit
def textS (v : Int) : ByteArray := ⟨(textL v).toArray⟩
theorem textS_list (v : Int) : (textS v).toList = textL v := by rw [Lib.toList_data]; simp [textS]
theorem textS_any (v : Int) (B : Nat) (w : World) (hT : TB B w) : Calls Tryd.prog 14 #[.int .i64 v] w fun e w' => e = .returned (.string (textS v)) ∧ Below w.heap.size w w' := text_any v B w hT
theorem texts_any (v u : Int) (w : World) (hT : TB w.heap.size w) : Calls Tryd.prog 5 #[.int .i64 v, .int .i64 u] w fun e w' => e = .returned (.bool true) ∧ Below w.heap.size w w' := by
  have HT := Lib.hid hT
  clear hT
  have E : ∀ x, mayB x = false ∧ (textS x).toList = [] ∧ (textS x).toList.isEmpty = true ∨ mayB x = true ∧ ¬ (textS x).toList = [] ∧ (textS x).toList.isEmpty = false := fun x => by
    rw [textS_list]
    cases h : mayB x
    · have := textL_nil.2 h; simp [this]
    · have h' : ¬ textL x = [] := fun e => by rw [textL_nil, h] at e; cases e
      simp [h']
  have h3 : mayB v = true → mayB u = true → ((textS v).toList == (textS u).toList) = (v == u) := fun h1 h2 => by
    rw [textS_list, textS_list, Bool.eq_iff_iff, beq_iff_eq, beq_iff_eq]
    exact ⟨textL_inj h1 h2, fun e => by rw [e]⟩
  have H3 := Lib.hid h3
  clear h3
  have HE := Lib.hid E
  clear E
  rcases HE.out v with ⟨h1, t1, i1⟩ | ⟨h1, t1, i1⟩ <;> rcases HE.out u with ⟨h2, t2, i2⟩ | ⟨h2, t2, i2⟩
  all_goals try have h3 := H3.out h1 h2
  all_goals
    go_enter Tryd.func5, Tryd.ntmps5
    go_wp2_with fail
    refine (fixed_any _ _ HT.out (Nat.le_refl _)).mono ?_
    rintro e w1 ⟨rfl, hb1⟩
    have hB1 := hb1.size
    go_wp2_with fail
    refine (textS_any _ w.heap.size _ (HT.out.on hb1)).mono ?_
    rintro e w2 ⟨rfl, hb2⟩
    have hB2 := hb2.size
    go_wp2_with fail
    refine (textS_any _ w.heap.size _ ((HT.out.on hb1).on (hb2.mono hB1))).mono ?_
    rintro e w3 ⟨rfl, hb3⟩
    go_wp2_with (go_at_call 12; refine (may_any _ _).mono ?_; rintro e w' ⟨rfl, rfl⟩)
    go_ret
    exact ⟨by simp, (hb1.trans (hb2.mono hB1)).trans (hb3.mono (by omega))⟩
end Go.Proofs.YtmapdimhgpdajaaDoor
