/- The document's small parts of stage 6 walked: a place in a list, so many times -1, lists with each number once. -/
import Derived.Test.YtododpdkbdndoaaCT
import Derived.Test.YtododpdkbdndoaaAP
import Derived.Test.YtododpdkbdndoaaVS
namespace Go.Proofs.Ytododpdkbdndoaa
open Go.RowKit
set_option maxRecDepth 100000
theorem place6_any (L : List Int) (x : Int) (A : Option Addr) (c : Nat) (w : World) (hs : IntsR w A L) (hl : L.length ≤ 9223372036854775807) :
    Calls Try.prog 78 #[.slice A L.length c, .int .i64 x] w fun e w' => e = .returned (.int .i64 (plZ L x)) ∧ w = w' := by
  have HS := hid hs
  clear hs
  go_enter Try.func78, Try.ntmps78
  go_wp2
  go_loopw [5] (fun i wr => ∃ k : Nat, k ≤ L.length ∧ i = .int .i64 k ∧ x ∉ L.take k ∧ w = wr) (fun i _ => L.length - (intOf i).toNat)
  case atStart => exact ⟨0, Nat.zero_le _, rfl, by simp, rfl⟩
  case round =>
    obtain ⟨k, hk, rfl, hno, rfl⟩ := hrel
    have HN := hid hno
    clear hno
    by_cases hlt : k < L.length
    · obtain ⟨bs, os, rfl, hbs, hcs⟩ := HS.out (by omega)
      have hcell : w.cell? ⟨bs, os + k, none⟩ = some (.int .i64 L[k]) := hcs k _ (List.getElem?_eq_getElem hlt)
      clear hcs
      by_cases he : L[k] = x
      · have hcx : Hid (plZ L x = k) := plZ_at hlt HN.out he
        rw [he] at hcell
        go_wp2
        go_ret
        exact ⟨by rw [hcx.out]; rfl, rfl⟩
      · have hne : (L[k] == x) = false := by simpa using he
        have HNX : Hid (x ∉ L.take (k + 1)) := by
          show ¬ _
          rw [List.take_succ_eq_append_getElem hlt]
          simp only [List.mem_append, List.mem_singleton, not_or]
          exact ⟨HN.out, fun e => he e.symm⟩
        go_wp2
        go_roundw
        case rel => exact ⟨k + 1, by omega, by go_num, HNX.out, by first | rfl | trivial⟩
        case measure => simp [intOf]; omega
    · have hkn : k = L.length := by omega
      have hcx : Hid (plZ L x = -1) := by
        show _ = _
        have := HN.out
        rw [hkn, List.take_length] at this
        exact plZ_no this
      go_wp2
      go_ret
      exact ⟨by rw [hcx.out]; rfl, rfl⟩
theorem perm_any (L : List Int) (n : Nat) (A : Option Addr) (c : Nat) (w : World) (hs : IntsR w A L) (hl : L.length ≤ 9223372036854775807) (hn : n ≤ 9223372036854775806) :
    Calls Try.prog 43 #[.slice A L.length c, .int .i64 n] w fun e w' => e = .returned (.bool (pmB L n)) ∧ w = w' := by
  have HS := hid hs
  clear hs
  go_enter Try.func43, Try.ntmps43
  go_wp2
  go_loopw [5] (fun i wr => ∃ k : Nat, k ≤ n ∧ i = .int .i64 k ∧ (∀ j : Nat, j < k → (j : Int) ∈ L) ∧ w = wr) (fun i _ => n - (intOf i).toNat)
  case atStart => exact ⟨0, Nat.zero_le _, rfl, fun j hj => absurd hj (Nat.not_lt_zero j), rfl⟩
  case round =>
    obtain ⟨k, hk, rfl, hall, rfl⟩ := hrel
    have HALL := hid hall
    clear hall
    by_cases hlt : k < n
    · by_cases hm : (k : Int) ∈ L
      · have hp : ¬ plZ L k < 0 := fun g => pl_in.1 g hm
        obtain ⟨p, hpp⟩ : ∃ p, p = plZ L k := ⟨_, rfl⟩
        have HPP := hid hpp
        rw [← hpp] at hp
        have hp0 : 0 ≤ p := by omega
        have HALL1 : Hid (∀ j : Nat, j < k + 1 → (j : Int) ∈ L) := fun j hj => by
          by_cases g : j < k
          · exact HALL.out j g
          · obtain rfl : j = k := by omega
            exact hm
        clear hpp hm hp
        go_wp2_with fail
        refine (place6_any L k A c w HS.out hl).mono ?_
        rintro e w' ⟨rfl, rfl⟩
        rw [← HPP.out]
        go_wp2_with fail
        go_roundw
        case rel => exact ⟨k + 1, by omega, by go_num, HALL1.out, by first | rfl | trivial⟩
        case measure => simp [intOf]; omega
      · have hp : plZ L k = -1 := plZ_no hm
        have HP := hid hp
        have hf : Hid (pmB L n = false) := by
          show _ = _
          cases h : pmB L n
          · rfl
          · exact absurd ((pmB_iff.1 h).2 k hlt) hm
        clear hm hp
        go_wp2_with fail
        refine (place6_any L k A c w HS.out hl).mono ?_
        rintro e w' ⟨rfl, rfl⟩
        rw [HP.out]
        go_wp2_with fail
        go_ret
        exact ⟨by rw [hf.out]; rfl, rfl⟩
    · obtain rfl : k = n := by omega
      have hf : Hid (pmB L k = ((L.length : Int) == (k : Int))) := by
        show _ = _
        have h2 : (((L.length : Int)) == (k : Int)) = decide (L.length = k) := by
          by_cases g : L.length = k
          · simp [g]
          · have : ¬ (L.length : Int) = k := by omega
            simp [g, this]
        rw [h2]
        unfold pmB
        have : ((List.range k).all fun i => decide ((i : Int) ∈ L)) = true := List.all_eq_true.2 fun i hi => decide_eq_true (HALL.out i (List.mem_range.1 hi))
        rw [this, Bool.and_true]
      go_wp2_with fail
      go_ret
      exact ⟨by rw [hf.out]; rfl, rfl⟩
def nones (k : Nat) : List Int := List.replicate k (-1)
theorem nones_len (k : Nat) : (nones k).length = k := by simp [nones]
theorem nones_succ (k : Nat) : nones (k + 1) = nones k ++ [-1] := by unfold nones; rw [List.replicate_succ']
set_option maxHeartbeats 1500000 in
theorem none_any (n : Nat) (hn : n ≤ 256) (w : World) :
    Calls Try.prog 75 #[.int .i64 n] w (IntsOwn w (nones n)) := by
  have EE := hid (own_empty w)
  have EB := hid (below_alloc w (.cells #[] 3))
  go_enter Try.func75, Try.ntmps75
  go_wp2_with fail
  go_loopw [4, 3] (fun i s wr => ∃ (k : Nat) (A3 : Option Addr) (c3 : Nat), k ≤ n ∧ i = .int .i64 k ∧ s = .slice A3 (nones k).length c3 ∧ wr.ownsRow w.heap.size 3 1 (.slice A3 (nones k).length c3) (nones k).length ((nones k).map (Value.int .i64)) ∧ Below w.heap.size w wr) (fun i _ _ => n - (intOf i).toNat)
  case atStart => exact ⟨0, _, _, Nat.zero_le _, rfl, rfl, EE.out, EB.out⟩
  case round =>
    clear EE EB
    obtain ⟨k, A3, c3, hk, rfl, rfl, hown, hbw⟩ := hrel
    rename World => w2
    have HW := hid hbw
    have HO := hid hown
    have hpl := Nat.le_of_eq (nones_len k)
    clear hown hbw
    by_cases hlt : k < n
    · have HRS := hid (nones_succ k)
      have hz := HW.out.size
      have HAL := hid (below_alloc w2 (.cells #[.int .i64 (-1)] 3))
      have HO3 := hid (own_later HO.out HAL.out)
      have HN := hid (Lies.new w2 3 #[.int .i64 (-1)])
      have hz2 : w.heap.size ≤ (w2.alloc (.cells #[.int .i64 (-1)] 3)).heap.size := by simp; omega
      go_wp2_with (at_builtin; refine wpList_append_one rfl (.tmp 11) (.tmp 12) rfl w.heap.size _ _ _ rfl HO3.out _ _ rfl HN.out (by omega) hz2 ?_)
      intro v' w' h1 h2
      obtain ⟨A4, c4, rfl⟩ := own_form h1
      have hps := congrArg List.length HRS.out
      rw [List.length_append, List.length_singleton] at hps
      have h1 : w'.ownsRow w.heap.size 3 1 (.slice A4 (nones (k + 1)).length c4) (nones (k + 1)).length ((nones (k + 1)).map (Value.int .i64)) := by rw [hps, HRS.out, List.map_append]; exact h1
      have hb2 := HW.out.trans ((HAL.out.mono hz).grown h2 hz2 (fun q hq => (HO3.out.lt q hq).1))
      have H1 := hid h1
      have HB2 := hid hb2
      have HPL := hid hps
      clear h1 h2 hb2 hps
      go_wp2_with fail
      go_roundw
      case rel => exact ⟨k + 1, A4, c4, by omega, by go_num, by rw [HPL.out], H1.out, HB2.out⟩
      case measure => simp [intOf]; omega
    · obtain rfl : k = n := by omega
      go_wp2_with fail
      go_ret
      exact ⟨A3, c3, rfl, HO.out, HW.out⟩
end Go.Proofs.Ytododpdkbdndoaa
