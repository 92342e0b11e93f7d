/- SnapUnlike lifted. -/
import Derived.Test.YthggafdfglojaaaRows
import Derived.Test.YthggafdfglojaaaWN8
import Derived.Test.YthggafdfglojaaaLP
import Derived.Test.YthggafdfglojaaaOP8
import Derived.Test.YthggafdfglojaaaOU8
import Derived.ProofKit
import Derived.OpenShut
namespace Go.Proofs.Ythggafdfglojaaa
open Go.ChangeShapes Go.WideShapes Go.ChangeAt Go.RowKit
set_option maxRecDepth 100000
namespace fnSnapUnlike
theorem own : ownKnob Try.prog.godebug = none := by kernel_rfl
theorem laidOut : laidOutB Try.prog = true := by kernel_rfl
theorem lifted (os : Os) (started : os.Started) (H : Type) (enc : TypeId × Value → H) :
    ReturnsInHanded {} Try.checked os 13 .any (Rows.snapUnlikeSpec.pre6 enc Try.prog Try.f13 Rows.snapUnlikeRow.domain false) (Rows.snapUnlikeSpec.post enc Try.prog Try.f13 false true false false) := by
  refine returnsInHanded_of_change (C := Try.checked) own started (by kernel_rfl) Try.func13
    (ChangeSpec.witness6 (enc := enc) (C := Try.checked) false ⟨#[], #[.agg #[.slice none 0 0, .int .i64 0, .int .i64 0], .agg #[.slice none 0 0, .int .i64 0, .int .i64 0], .agg #[.slice none 0 0, .slice none 0 0]], []⟩ 8 (by kernel_rfl) (by kernel_rfl) (by kernel_rfl) (by kernel_rfl)) ?_
  intro W base args ds gs before hval0 hW hcnd _
  have hval : ∀ (j : Nat) t v, Try.f13.params[j]? = some t → args[j]? = some v → Value.okWide Try.prog W .any base t v := hval0
  have hW' := hW
  obtain ⟨p, q, hA0, hV, rfl, hfz, hnd⟩ := hW
  have hA : DataW.TrodAll enc Try.prog W 0 (fun _ => true) true Try.f13.params.toList args.toList ds p := hA0
  rw [Try.params13] at hA hval
  obtain ⟨v0, v1, v2, d0, d1, d2, p0, p1, p2, rfl, rfl, rfl, h0, h1, h2⟩ := trodAll_three hA
  obtain ⟨rfl, rfl⟩ := trodVars_none hV
  obtain ⟨hp0, A0, c0, rfl, ob0, ft0, wd0⟩ := open_heap8 (hval 0 24 v0 rfl rfl) h0
  obtain ⟨hp1, A1, c1, rfl, ob1, ft1, wd1⟩ := open_heap8 (hval 1 24 v1 rfl rfl) h1
  obtain ⟨S2, c2, xs2, T2, e2, ys2, rfl, oa2, la2, ob2, lb2⟩ := open_rows8 (hval 2 57 v2 rfl rfl) h2
  clear hA0 hval0
  simp only [List.append_nil] at hW'
  refine (unlike8_any hp0 hp1 xs2 ys2 A0 c0 A1 c1 S2 c2 T2 e2 W ob0 ft0 wd0 ob1 ft1 wd1 oa2 la2 ob2 lb2).mono fun e W' ⟨he, hb⟩ => ?_
  subst he
  exact ⟨_, rfl, law_post laidOut (by kernel_rfl) rfl (by kernel_rfl) Try.underlying4 hW' rfl hb⟩
end fnSnapUnlike
theorem snapUnlike_holds : Rows.SnapUnlikeSaid :=
  OpenClaim.holds_of_wide 13 Try.f13 rfl rfl rfl rfl rfl rfl rfl ⟨rfl, rfl, rfl, rfl, rfl⟩ rfl rfl rfl rfl rfl (by kernel_rfl) Try.func13 (by kernel_rfl)
    (of_decide_eq_true (by kernel_rfl)) (by unfold Func.isWrapper; first | (rw [if_pos (by decide +kernel)]; kernel_rfl) | (rw [if_neg (by decide +kernel)]; exact ⟨rfl, rfl⟩))
    (fun os started H enc _ => fnSnapUnlike.lifted os started H enc)
end Go.Proofs.Ythggafdfglojaaa
