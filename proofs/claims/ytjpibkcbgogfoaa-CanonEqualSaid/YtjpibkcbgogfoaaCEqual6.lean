/- CanonEqual lifted. -/
import Derived.Test.YtjpibkcbgogfoaaRows
import Derived.Test.YtjpibkcbgogfoaaLQ
import Derived.Test.YtjpibkcbgogfoaaOP
import Derived.Test.YtjpibkcbgogfoaaLP
import Derived.Test.YtjpibkcbgogfoaaOR
import Derived.ProofKit
import Derived.OpenShut
namespace Go.Proofs.Ytjpibkcbgogfoaa
open Go.ChangeShapes Go.WideShapes Go.ChangeAt Go.RowKit
set_option maxRecDepth 100000
namespace fnCanonEqual
theorem own : ownKnob Try.prog.godebug = none := by kernel_rfl
theorem laidOut : laidOutB Try.prog = true := by kernel_rfl
theorem lifted (os : Os) (started : os.Started) (H : Type) (enc : TypeId × Value → H) :
    ReturnsInHanded {} Try.checked os 13 .any (Rows.canonEqualSpec.pre6 enc Try.prog Try.f13 Rows.canonEqualRow.domain false) (Rows.canonEqualSpec.post enc Try.prog Try.f13 false true false false) := by
  refine returnsInHanded_of_change (C := Try.checked) own started (by kernel_rfl) Try.func13
    (ChangeSpec.witness6 (enc := enc) (C := Try.checked) false ⟨#[], #[.agg #[.slice none 0 0, .int .i64 0, .int .i64 0, .slice none 0 0], .agg #[.slice none 0 0, .int .i64 0, .int .i64 0, .slice none 0 0], .agg #[.slice none 0 0, .int .i64 0, .int .i64 0, .slice none 0 0]], []⟩ 8 (by kernel_rfl) (by kernel_rfl) (by kernel_rfl) (by kernel_rfl)) ?_
  intro W base args ds gs before hval0 hW hcnd _
  have hval : ∀ (j : Nat) t v, Try.f13.params[j]? = some t → args[j]? = some v → Value.okWide Try.prog W .any base t v := hval0
  have hW' := hW
  obtain ⟨p, q, hA0, hV, rfl, hfz, hnd⟩ := hW
  have hA : DataW.TrodAll enc Try.prog W 0 (fun _ => true) true Try.f13.params.toList args.toList ds p := hA0
  rw [Try.params13] at hA hval
  obtain ⟨v0, v1, v2, d0, d1, d2, p0, p1, p2, rfl, rfl, rfl, h0, h1, h2⟩ := trodAll_three hA
  obtain ⟨rfl, rfl⟩ := trodVars_none hV
  obtain ⟨hp0, A0, c0, xs0, R0, e0, rfl, ob0, ft0, ri0, nl0, hl0⟩ := open_rooted (hval 0 53 v0 rfl rfl) h0
  obtain ⟨hp1, A1, c1, xs1, R1, e1, rfl, ob1, ft1, ri1, nl1, hl1⟩ := open_rooted (hval 1 53 v1 rfl rfl) h1
  obtain ⟨hp2, A2, c2, xs2, R2, e2, rfl, ob2, ft2, ri2, nl2, hl2⟩ := open_rooted (hval 2 53 v2 rfl rfl) h2
  clear hA0 hval0
  simp only [List.append_nil] at hW'
  refine (cequal_any hp0 hp1 hp2 xs0 xs1 xs2 A0 R0 A1 R1 A2 R2 c0 e0 c1 e1 c2 e2 W ob0 ft0 ri0 nl0 hl0 ob1 ft1 ri1 nl1 hl1 ob2 ft2 ri2 nl2 hl2).mono fun e W' ⟨he, hb⟩ => ?_
  subst he
  exact ⟨_, rfl, law_post laidOut (by kernel_rfl) rfl (by kernel_rfl) Try.underlying4 hW' rfl hb⟩
end fnCanonEqual
theorem canonEqual_holds : Rows.CanonEqualSaid :=
  OpenClaim.holds_of_wide 13 Try.f13 rfl rfl rfl rfl rfl rfl rfl ⟨rfl, rfl, rfl, rfl, rfl⟩ rfl rfl rfl rfl rfl (by kernel_rfl) Try.func13 (by kernel_rfl)
    (of_decide_eq_true (by kernel_rfl)) (by unfold Func.isWrapper; first | (rw [if_pos (by decide +kernel)]; kernel_rfl) | (rw [if_neg (by decide +kernel)]; exact ⟨rfl, rfl⟩))
    (fun os started H enc _ => fnCanonEqual.lifted os started H enc)
end Go.Proofs.Ytjpibkcbgogfoaa
