/- FrameWrites, lifted. -/
import Derived.Test.YtgocodnehppniaaGreatRows
import Derived.Test.YtgocodnehppniaaGreatUG12
import Derived.Test.YtgocodnehppniaaGreatOP0
import Derived.Test.YtgocodnehppniaaGreatOPM12
import Derived.Test.YtgocodnehppniaaGreatOA12
import Derived.Test.YtgocodnehppniaaGreatLP
import Derived.ProofKit
import Derived.OpenShut
namespace Go.Proofs.YtgocodnehppniaaGreat
open Go.ChangeShapes Go.WideShapes Go.ChangeAt Go.RowKit
set_option maxRecDepth 100000
namespace fnFrameWrites
theorem own : ownKnob Tryz.prog.godebug = none := by kernel_rfl
theorem laidOut : laidOutB Tryz.prog = true := by kernel_rfl
theorem lifted (os : Os) (started : os.Started) (H : Type) (enc : TypeId × Value → H) :
    ReturnsInHanded {} Tryz.checked os 4 .any (Rows.frameWritesSpec.pre6 enc Tryz.prog Tryz.f4 Rows.frameWritesRow.domain false) (Rows.frameWritesSpec.post enc Tryz.prog Tryz.f4 false true false false) := by
  refine returnsInHanded_of_change_sized (C := Tryz.checked) own started (by kernel_rfl) Tryz.func4
    (ChangeSpec.witness6 (enc := enc) (C := Tryz.checked) false ⟨#[], #[.agg #[.slice none 0 0, .int .i64 0, .int .i64 0], .agg #[.int .i64 0, .int .i64 0, .int .i64 0]], []⟩ 8 (by kernel_rfl) (by kernel_rfl) (by kernel_rfl) (by kernel_rfl)) ?_
  intro W base args ds gs before hval0 hW hcnd hsz _
  have hval : ∀ (j : Nat) t v, Tryz.f4.params[j]? = some t → args[j]? = some v → Value.okWide Tryz.prog W .any base t v := hval0
  have hW' := hW
  obtain ⟨p, q, hA0, hV, rfl, hfz, hnd⟩ := hW
  have hA : DataW.TrodAll enc Tryz.prog W 0 (fun _ => true) true Tryz.f4.params.toList args.toList ds p := hA0
  rw [Tryz.params4] at hA hval
  obtain ⟨v0, v1, d0, d1, p0, p1, rfl, rfl, rfl, h0, h1⟩ := trodAll_two hA
  obtain ⟨rfl, rfl⟩ := trodVars_none hV
  obtain ⟨hp0, A0, c0, rfl, ob0, ft0, mm0⟩ := open_heap_m (hval 0 24 v0 rfl rfl) h0
  obtain ⟨a1, b1, e1, rfl⟩ := open_ask12 (hval 1 26 v1 rfl rfl) h1
  have mem0 : hp0.Mem := mm0 fun n hn => of_decide_eq_true (List.all_eq_true.1 hsz n (DataW.weights_mem_each (j := 0) (t := 24) (by kernel_rfl) rfl n hn))
  clear hA0 hval0 mm0 hsz
  simp only [List.append_nil] at hW'
  refine (framewrites_any12 hp0 a1 b1 e1 A0 c0 W ob0 ft0 mem0).mono fun e W' ⟨he, hb⟩ => ?_
  subst he
  exact ⟨_, rfl, law_post laidOut (by kernel_rfl) rfl (by kernel_rfl) Tryz.underlying4 hW' rfl hb⟩
end fnFrameWrites
theorem frameWrites_holds : Rows.FrameWritesSaid :=
  OpenClaim.holds_of_wide 4 Tryz.f4 rfl rfl rfl rfl rfl rfl rfl ⟨rfl, rfl, rfl, rfl, rfl⟩ rfl rfl rfl rfl rfl (by kernel_rfl) Tryz.func4 (by kernel_rfl)
    (of_decide_eq_true (by kernel_rfl)) (by unfold Func.isWrapper; first | (rw [if_pos (by decide +kernel)]; kernel_rfl) | (rw [if_neg (by decide +kernel)]; exact ⟨rfl, rfl⟩))
    (fun os started H enc _ => fnFrameWrites.lifted os started H enc)
end Go.Proofs.YtgocodnehppniaaGreat
