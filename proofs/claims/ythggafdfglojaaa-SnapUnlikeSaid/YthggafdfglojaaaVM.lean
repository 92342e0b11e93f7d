/- value.May walked. -/
import Derived.Test.YthggafdfglojaaaG
namespace Go.Proofs.Ythggafdfglojaaa
open Go.RowKit
set_option maxRecDepth 100000
theorem vmay_any (v : Int) (w : World) : Calls Try.prog 121 #[.int .i64 v] w fun e w' => e = .returned (.bool (nB v || atB v)) ∧ w = w' := by
  cases hn : nB v
  · go_enter Try.func121, Try.ntmps121
    go_wp2_with (first | (go_at_call 84; refine (n_any _ _).mono ?_; rintro e w' ⟨rfl, rfl⟩) | (go_at_call 85; refine (at_any _ _).mono ?_; rintro e w' ⟨rfl, rfl⟩))
    go_ret
    exact ⟨rfl, rfl⟩
  · go_enter Try.func121, Try.ntmps121
    go_wp2_with (first | (go_at_call 84; refine (n_any _ _).mono ?_; rintro e w' ⟨rfl, rfl⟩) | (go_at_call 85; refine (at_any _ _).mono ?_; rintro e w' ⟨rfl, rfl⟩))
    go_ret
    exact ⟨rfl, rfl⟩
end Go.Proofs.Ythggafdfglojaaa
