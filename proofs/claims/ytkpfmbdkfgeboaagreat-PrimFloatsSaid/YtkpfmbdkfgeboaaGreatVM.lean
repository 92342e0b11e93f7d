/- value.May walked. -/
import Derived.Test.YtkpfmbdkfgeboaaGreatG
namespace Go.Proofs.YtkpfmbdkfgeboaaGreat
open Go.RowKit
set_option maxRecDepth 100000
theorem vmay_any (v : Int) (w : World) : Calls Tryz.prog 86 #[.int .i64 v] w fun e w' => e = .returned (.bool (nB v || atB v)) ∧ w = w' := by
  cases hn : nB v
  · go_enter Tryz.func86, Tryz.ntmps86
    go_wp2_with (first | (go_at_call 119; refine (n_any _ _).mono ?_; rintro e w' ⟨rfl, rfl⟩) | (go_at_call 85; refine (at_any _ _).mono ?_; rintro e w' ⟨rfl, rfl⟩))
    go_ret
    exact ⟨rfl, rfl⟩
  · go_enter Tryz.func86, Tryz.ntmps86
    go_wp2_with (first | (go_at_call 119; refine (n_any _ _).mono ?_; rintro e w' ⟨rfl, rfl⟩) | (go_at_call 85; refine (at_any _ _).mono ?_; rintro e w' ⟨rfl, rfl⟩))
    go_ret
    exact ⟨rfl, rfl⟩
end Go.Proofs.YtkpfmbdkfgeboaaGreat
