/- The program's Check. -/
import Derived.Test.YtobelbaeaamkkaaDoorTC11
namespace Go.Proofs.YtobelbaeaamkkaaDoor
open Go.RowKit
set_option maxRecDepth 100000
set_option maxHeartbeats 2000000 in
theorem ccheck_any11 (l : List In) (lits temps : Int) (A : Option Addr) (c : Nat) (w : World) (hs : InsR w A l) (fl : l.length ≤ 1000) :
    Calls Tryd.prog 10 #[.slice A l.length c, .int .i64 lits, .int .i64 temps] w fun e w' => e = .returned (.int .i64 (ck11 l lits temps)) ∧ Below w.heap.size w w' := by
  have HS := hid hs
  have hl1 : (l.length : Int) ≤ 1000 := by omega
  clear hs
  by_cases hl0 : l.length = 0
  · have HC : Hid (ck11 l lits temps = 110) := by
      obtain rfl := List.eq_nil_of_length_eq_zero hl0
      exact ck_end11 rfl
    have hl0I : (l.length : Int) = 0 := by omega
    have hl0B : ((l.length : Int) == 0) = true := by rw [hl0I]; rfl
    rw [HC.out]
    go_enter Tryd.func10, Tryd.ntmps10
    go_wp2_with fail
    go_ret
    exact ⟨rfl, Below.refl _ _⟩
  · have hl0I : ¬ (l.length : Int) = 0 := by omega
    have hl0C : ((l.length : Int) == 0) = false := beq_eq_false_iff_ne.2 hl0I
    cases hall : all11 l
    · have HC : Hid (ck11 l lits temps = 110) := ck_all11 hall
      have HALL := hid hall
      rw [HC.out]
      clear hall
      go_enter Tryd.func10, Tryd.ntmps10
      go_wp2_with fail
      refine (pall_any11 l A c _ HS.out fl).mono ?_
      rintro e w1 ⟨rfl, hb⟩
      have HB1 := hid hb
      clear hb
      rw [HALL.out]
      go_wp2_with fail
      go_ret
      exact ⟨rfl, HB1.out⟩
    · have HALL := hid hall
      clear hall
      have hlw : IntKind.i64.wrap ((l.length : Int) - 1) = (l.length : Int) - 1 := IntWalk.i64_in _ ⟨by omega, by omega⟩
      obtain ⟨b, off, rfl, hlt, hc⟩ := HS.out (by omega)
      have hj : l.length - 1 < l.length := by omega
      have ha := (hc _ _ (List.getElem?_eq_getElem hj)).1
      have HE : Hid (end11 l = (decide ((l[l.length - 1]'hj).op = 14) || (decide ((l[l.length - 1]'hj).op = 15) || decide ((l[l.length - 1]'hj).op = 10)))) := end_is11 hj
      obtain ⟨x, hx⟩ : ∃ x, x = l[l.length - 1]'hj := ⟨_, rfl⟩
      rw [← hx] at ha HE
      have HA := hid ha
      obtain ⟨v, hv⟩ : ∃ v, v = (decide (x.op = 14) || (decide (x.op = 15) || decide (x.op = 10))) := ⟨_, rfl⟩
      have HLAST : ∀ w0, Calls Tryd.prog 23 #[.int .i64 x.op] w0 fun e w' => e = .returned (.bool v) ∧ w0 = w' := fun w0 => by rw [hv]; exact plast_any11 x.op w0
      rw [← hv] at HE
      have HHL := hid HLAST
      clear ha hx hc HLAST hv
      go_enter Tryd.func10, Tryd.ntmps10
      go_wp2_with fail
      refine (pall_any11 l _ c _ HS.out fl).mono ?_
      rintro e w1 ⟨rfl, hb⟩
      have HB1 := hid hb
      clear hb
      rw [HALL.out]
      have g0 := cell_later HB1.out HA.out
      have hi0 : 0 ≤ (l.length : Int) - 1 := by omega
      have hi1 : (l.length : Int) - 1 < (l.length : Int) := by omega
      have hi2 : ((l.length : Int) - 1).toNat = l.length - 1 := by omega
      go_wp2_with fail
      refine (HHL.out _).mono ?_
      rintro e w2 ⟨rfl, rfl⟩
      clear g0
      cases v
      · have HC : Hid (ck11 l lits temps = 110) := ck_end11 HE.out
        go_wp2_with fail
        go_ret
        exact ⟨by rw [HC.out]; rfl, HB1.out⟩
      · go_wp2_with fail
        clear hlw hi0 hi1 hi2
        go_loopw [30] (fun i wr => ∃ j : Nat, j ≤ l.length ∧ i = .int .i64 j ∧ Hid ((l.take j).any (bad11 l.length lits temps) = false) ∧ Below w.heap.size w wr) (fun i _ => l.length + 1 - (intOf i).toNat)
        case atStart => exact ⟨0, by omega, rfl, rfl, HB1.out⟩
        case round =>
          rename World => w50
          obtain ⟨j, hjl, rfl, HT, hb⟩ := hrel
          have HB := hid hb
          clear hb
          have hjw : IntKind.i64.wrap ((j : Int) + 1) = (j : Int) + 1 := IntWalk.i64_in _ ⟨by omega, by omega⟩
          have hj0 : (0 : Int) ≤ (j : Int) := by omega
          by_cases hj : j < l.length
          · have hjI : (j : Int) < (l.length : Int) := by omega
            obtain ⟨b', off', hbo, hlt', hc⟩ := HS.out (by omega)
            obtain ⟨rfl, rfl⟩ : b = b' ∧ off = off' := by
              injection hbo with hbo
              injection hbo with h1 h2
              exact ⟨h1, h2⟩
            have ha := hc j _ (List.getElem?_eq_getElem hj)
            have HTK : Hid (l.take (j + 1) = l.take j ++ [l[j]'hj]) := by show _ = _; rw [List.take_succ_eq_append_getElem hj]
            have HMEM : Hid (l[j]'hj ∈ l) := List.getElem_mem hj
            obtain ⟨x, hx⟩ : ∃ x, x = l[j]'hj := ⟨_, rfl⟩
            rw [← hx] at ha HTK HMEM
            have HMAY : Hid (may11 x = true) := all_may11 HALL.out x HMEM.out
            have BAD : Hid (bad11 l.length lits temps x = true → ck11 l lits temps = 110) := ck_bad11 HMEM.out
            have GOOD : Hid (bad11 l.length lits temps x = false → (l.take (j + 1)).any (bad11 l.length lits temps) = false) := fun h => by rw [HTK.out, List.any_append, HT.out]; simp [h]
            have g0 := cell_later HB.out ha.1
            have g1 := cell_later HB.out ha.2
            have hX := Lies.new w50 34 #[.int .i64 x.op, .int .i64 x.a]
            have HB2 := hid (HB.out.trans ((below_alloc w50 (.cells #[.int .i64 x.op, .int .i64 x.a] 34)).mono HB.out.size))
            have x0 := hX.cell 0
            have x1 := hX.cell 1
            simp only [List.getElem?_toArray, List.getElem?_cons_zero, List.getElem?_cons_succ] at x0 x1
            clear ha hx hc hlt' HTK HMEM hX hbo
            go_wp2_with fail
            refine (pfits_any11 x l.length lits temps _ HMAY.out).mono ?_
            rintro e w3 ⟨rfl, hb⟩
            have HB3 := hid (HB2.out.trans (hb.mono HB2.out.size))
            clear hb x0 x1 g0 g1
            cases hbad : bad11 l.length lits temps x
            · have HN := hid (GOOD.out hbad)
              clear hbad
              go_wp2_with fail
              go_roundw
              case rel => exact ⟨j + 1, by omega, by go_num, HN, HB3.out⟩
              case measure => simp only [intOf]; omega
            · have HC := hid (BAD.out hbad)
              clear hbad
              go_wp2_with fail
              go_ret
              exact ⟨by rw [HC.out]; rfl, HB3.out⟩
          · obtain rfl : j = l.length := by omega
            have HC : Hid (ck11 l lits temps = 0) := ck_ok11 HALL.out (by rw [← HT.out, List.take_length]) HE.out
            go_wp2_with fail
            go_ret
            exact ⟨by rw [HC.out]; rfl, HB.out⟩
end Go.Proofs.YtobelbaeaamkkaaDoor
