/- The document's small parts of stage 6 walked: a place in a list, so many times -1, lists with each number once. -/
import Derived.Test.YtnilempeldlieaaGreatM07
import Derived.Test.YtnilempeldlieaaGreatM09
namespace Go.Proofs.YtnilempeldlieaaGreat
open Go.RowKit
set_option maxRecDepth 100000
def nones (k : Nat) : List Int := List.replicate k (-1)
theorem nones_len (k : Nat) : (nones k).length = k := by simp [nones]
theorem nones_succ (k : Nat) : nones (k + 1) = nones k ++ [-1] := by unfold nones; rw [List.replicate_succ']
set_option maxHeartbeats 1500000 in
theorem none_any (n : Nat) (hn : n ≤ 256) (w : World) :
    Calls Tryz.prog 61 #[.int .i64 n] w (IntsOwn w (nones n)) := by
  have EE := hid (own_empty w)
  have EB := hid (below_alloc w (.cells #[] 3))
  go_enter Tryz.func61, Tryz.ntmps61
  go_wp2_with fail
  go_loopw [4, 3] (fun i s wr => ∃ (k : Nat) (A3 : Option Addr) (c3 : Nat), k ≤ n ∧ i = .int .i64 k ∧ s = .slice A3 (nones k).length c3 ∧ wr.ownsRow w.heap.size 3 1 (.slice A3 (nones k).length c3) (nones k).length ((nones k).map (Value.int .i64)) ∧ Below w.heap.size w wr) (fun i _ _ => n - (intOf i).toNat)
  case atStart => exact ⟨0, _, _, Nat.zero_le _, rfl, rfl, EE.out, EB.out⟩
  case round =>
    clear EE EB
    obtain ⟨k, A3, c3, hk, rfl, rfl, hown, hbw⟩ := hrel
    rename World => w2
    have HW := hid hbw
    have HO := hid hown
    have hpl := Nat.le_of_eq (nones_len k)
    clear hown hbw
    by_cases hlt : k < n
    · have HRS := hid (nones_succ k)
      have hz := HW.out.size
      have HAL := hid (below_alloc w2 (.cells #[.int .i64 (-1)] 3))
      have HO3 := hid (own_later HO.out HAL.out)
      have HN := hid (Lies.new w2 3 #[.int .i64 (-1)])
      have hz2 : w.heap.size ≤ (w2.alloc (.cells #[.int .i64 (-1)] 3)).heap.size := by simp; omega
      go_wp2_with (at_builtin; refine wpList_append_one rfl (.tmp 11) (.tmp 12) rfl w.heap.size _ _ _ rfl HO3.out _ _ rfl HN.out (by omega) hz2 ?_)
      intro v' w' h1 h2
      obtain ⟨A4, c4, rfl⟩ := own_form h1
      have hps := congrArg List.length HRS.out
      rw [List.length_append, List.length_singleton] at hps
      have h1 : w'.ownsRow w.heap.size 3 1 (.slice A4 (nones (k + 1)).length c4) (nones (k + 1)).length ((nones (k + 1)).map (Value.int .i64)) := by rw [hps, HRS.out, List.map_append]; exact h1
      have hb2 := HW.out.trans ((HAL.out.mono hz).grown h2 hz2 (fun q hq => (HO3.out.lt q hq).1))
      have H1 := hid h1
      have HB2 := hid hb2
      have HPL := hid hps
      clear h1 h2 hb2 hps
      go_wp2_with fail
      go_roundw
      case rel => exact ⟨k + 1, A4, c4, by omega, by go_num, by rw [HPL.out], H1.out, HB2.out⟩
      case measure => simp [intOf]; omega
    · obtain rfl : k = n := by omega
      go_wp2_with fail
      go_ret
      exact ⟨A3, c3, rfl, HO.out, HW.out⟩
end Go.Proofs.YtnilempeldlieaaGreat
