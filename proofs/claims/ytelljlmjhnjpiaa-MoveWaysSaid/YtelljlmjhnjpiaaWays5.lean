/- MoveWays is proved for whatever heap, roots and way, at whatever sizes: it answers true. -/
import Derived.Test.YtelljlmjhnjpiaaRows
import Derived.Test.YtelljlmjhnjpiaaVLY
import Derived.Test.YtelljlmjhnjpiaaOP
import Derived.Test.YtelljlmjhnjpiaaLP
import Derived.ProofKit
import Derived.OpenShut
namespace Go.Proofs.Ytelljlmjhnjpiaa
open Go.ChangeShapes Go.WideShapes Go.ChangeAt Go.RowKit
set_option maxRecDepth 100000
namespace fnMoveWays
theorem own : ownKnob Try.prog.godebug = none := by kernel_rfl
theorem laidOut : laidOutB Try.prog = true := by kernel_rfl
theorem lifted (os : Os) (started : os.Started) (H : Type) (enc : TypeId × Value → H) :
    ReturnsInHanded {} Try.checked os 11 .any (Rows.moveWaysSpec.pre6 enc Try.prog Try.f11 Rows.moveWaysRow.domain false) (Rows.moveWaysSpec.post enc Try.prog Try.f11 false true false false) := by
  refine returnsInHanded_of_change (C := Try.checked) own started (by kernel_rfl) Try.func11
    (ChangeSpec.witness6 (enc := enc) (C := Try.checked) false ⟨#[], #[.agg #[.slice none 0 0, .int .i64 0, .int .i64 0], .slice none 0 0, .slice none 0 0], []⟩ 8 (by kernel_rfl) (by kernel_rfl) (by kernel_rfl) (by kernel_rfl)) ?_
  intro W base args ds gs before hval0 hW hcnd _
  have hval : ∀ (j : Nat) t v, Try.f11.params[j]? = some t → args[j]? = some v → Value.okWide Try.prog W .any base t v := hval0
  have hW' := hW
  obtain ⟨p, q, hA0, hV, rfl, hfz, hnd⟩ := hW
  have hA : DataW.TrodAll enc Try.prog W 0 (fun _ => true) true Try.f11.params.toList args.toList ds p := hA0
  rw [Try.params11] at hA hval
  obtain ⟨v0, v1, v2, d0, d1, d2, p0, p1, p2, rfl, rfl, rfl, h0, h1, h2⟩ := trodAll_three hA
  obtain ⟨rfl, rfl⟩ := trodVars_none hV
  obtain ⟨hp0, A0, c0, rfl, ob0, ft0⟩ := open_heap (hval 0 24 v0 rfl rfl) h0
  obtain ⟨A1, c1, xs1, rfl, ob1, -, -, ft1⟩ := open_list (hval 1 44 v1 rfl rfl) h1
  obtain ⟨A2, c2, xs2, rfl, ob2, -, -, ft2⟩ := open_list (hval 2 44 v2 rfl rfl) h2
  clear hA0 hval0
  simp only [List.append_nil] at hW'
  refine (ways_any hp0 xs1 xs2 A0 c0 A1 c1 A2 c2 W ob0 ft0 ob1 ft1 ob2 ft2).mono fun e W' ⟨he, hb⟩ => ?_
  subst he
  exact ⟨_, rfl, law_post laidOut (by kernel_rfl) rfl (by kernel_rfl) Try.underlying4 hW' rfl hb⟩
end fnMoveWays
theorem moveWays_holds : Rows.MoveWaysSaid :=
  OpenClaim.holds_of_wide 11 Try.f11 rfl rfl rfl rfl rfl rfl rfl ⟨rfl, rfl, rfl, rfl, rfl⟩ rfl rfl rfl rfl rfl (by kernel_rfl) Try.func11 (by kernel_rfl)
    (of_decide_eq_true (by kernel_rfl)) (by unfold Func.isWrapper; first | (rw [if_pos (by decide +kernel)]; kernel_rfl) | (rw [if_neg (by decide +kernel)]; exact ⟨rfl, rfl⟩))
    (fun os started H enc _ => fnMoveWays.lifted os started H enc)
end Go.Proofs.Ytelljlmjhnjpiaa
