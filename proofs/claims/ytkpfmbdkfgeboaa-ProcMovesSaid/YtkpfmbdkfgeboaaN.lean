/- Small: whatever a heap has, it answers. -/
import Derived.Test.YtkpfmbdkfgeboaaS
namespace Go.Proofs.Ytkpfmbdkfgeboaa
open Go.RowKit
def SomeBool (w : World) (e : Ending) (w' : World) : Prop := ∃ b, e = .returned (.bool b) ∧ Below w.heap.size w w'
set_option maxRecDepth 100000 in
set_option maxHeartbeats 4000000 in
theorem small_ok (h : Hp) (A : Option Addr) (c : Nat) (w : World) (hs : ObsR w A h.objs) (fit : h.Fit) :
    Calls Try.prog 6 #[.agg #[.slice A h.objs.length c, .int .i64 h.cap, .int .i64 h.last]] w (SomeBool w) := by
  have HB0 := hid (below_alloc w (.cells #[Value.slice A h.objs.length c, Value.int .i64 h.cap, Value.int .i64 h.last] 24))
  have HX := hid (BoxH.new w h A c)
  have HS := hid hs
  have hl : h.objs.length ≤ 9223372036854775807 := fit.1
  clear hs fit
  go_enter Try.func6, Try.ntmps6
  go_wp2
  go_loopw [3, 4] (fun n i wr => ∃ (k : Nat) (z : Int), k ≤ h.objs.length ∧ i = .int .i64 k ∧ n = .int .i64 z ∧ Below w.heap.size w wr ∧ BoxH wr w.heap.size h A c) (fun _ i _ => h.objs.length - (intOf i).toNat)
  case atStart => exact ⟨0, 0, Nat.zero_le _, rfl, rfl, HB0.out, HX.out⟩
  case round =>
    obtain ⟨k, z, hk, rfl, rfl, hbw, hX⟩ := hrel
    have HW := hid hbw
    have HX' := hid hX
    clear hbw HX
    obtain ⟨e0, -, -⟩ := hX
    by_cases hlt : k < h.objs.length
    · by_cases hz : z < 5000
      · obtain ⟨bs, os, rfl, hbs, hcs⟩ := HS.out (by omega)
        obtain ⟨S, d, hob, hin, _⟩ := hcs k _ (List.getElem?_eq_getElem hlt)
        obtain ⟨c0, c1, c2, c3, c4, c5⟩ := hob.below hbs HW.out
        clear hcs hob hin
        go_wp2
        go_quiet (fail)
        go_wp2
        go_roundw
        case rel => exact ⟨k + 1, _, by omega, by go_num, rfl, below_go HW.out HW.out.size (below_drewN _ _), HX'.out.later (below_drewN _ _)⟩
        case measure => simp [intOf]; omega
      · go_wp2
        all_goals go_ret
        all_goals exact ⟨_, rfl, HW.out⟩
    · go_wp2
      all_goals go_ret
      all_goals exact ⟨_, rfl, HW.out⟩
end Go.Proofs.Ytkpfmbdkfgeboaa
