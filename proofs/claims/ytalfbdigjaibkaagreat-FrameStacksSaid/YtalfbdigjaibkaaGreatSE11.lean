/- The document's word on whether instructions may be a method's. -/
import Derived.Test.YtalfbdigjaibkaaGreatSD11
namespace Go.Proofs.YtalfbdigjaibkaaGreat
open Go.RowKit
set_option maxRecDepth 100000
theorem ck_bad11 {l : List In} {lits temps : Int} {x : In} (hx : x ∈ l) (hb : bad11 l.length lits temps x = true) : ck11 l lits temps = 110 := by
  unfold ck11
  have h : l.any (bad11 l.length lits temps) = true := List.any_eq_true.2 ⟨x, hx, hb⟩
  rw [h]
  simp
theorem ck_end11 {l : List In} {lits temps : Int} (h : end11 l = false) : ck11 l lits temps = 110 := by
  unfold ck11; rw [h]; simp
theorem ck_ok11 {l : List In} {lits temps : Int} (ha : all11 l = true) (hb : l.any (bad11 l.length lits temps) = false) (h : end11 l = true) : ck11 l lits temps = 0 := by
  unfold ck11; rw [ha, hb, h]; rfl
theorem ck_all11 {l : List In} {lits temps : Int} (ha : all11 l = false) : ck11 l lits temps = 110 := by
  unfold ck11; rw [ha]; simp
theorem end_is11 {l : List In} (h : l.length - 1 < l.length) : end11 l = (decide ((l[l.length - 1]'h).op = 14) || (decide ((l[l.length - 1]'h).op = 15) || decide ((l[l.length - 1]'h).op = 10))) := by
  unfold end11
  rw [List.getLast?_eq_getElem?, List.getElem?_eq_getElem h]
set_option maxHeartbeats 3000000 in
theorem check_any11 (l : List In) (lits temps : Int) (A : Option Addr) (c : Nat) (w : World) (hs : InsR w A l) (fl : l.length ≤ 1000) :
    Calls Tryz.prog 42 #[.slice A l.length c, .int .i64 lits, .int .i64 temps] w fun e w' => e = .returned (.int .i64 (ck11 l lits temps)) ∧ Below w.heap.size w w' := by
  have HS := hid hs
  have hl1 : (l.length : Int) ≤ 1000 := by omega
  clear hs
  by_cases hl0 : l.length = 0
  · have HC : Hid (ck11 l lits temps = 110) := by
      obtain rfl := List.eq_nil_of_length_eq_zero hl0
      exact ck_end11 rfl
    have hl0I : (l.length : Int) = 0 := by omega
    have hl0B : ((l.length : Int) == 0) = true := by rw [hl0I]; rfl
    go_enter Tryz.func42, Tryz.ntmps42
    go_wp2_with fail
    go_ret
    exact ⟨by rw [HC.out]; rfl, Below.refl _ _⟩
  · have hl0I : ¬ (l.length : Int) = 0 := by omega
    have hl0B : (l.length == 0) = false := beq_eq_false_iff_ne.2 hl0
    have hl0C : ((l.length : Int) == 0) = false := beq_eq_false_iff_ne.2 hl0I
    go_enter Tryz.func42, Tryz.ntmps42
    go_wp2_with fail
    refine (all_any11 l A c _ HS.out fl).mono ?_
    rintro e w1 ⟨rfl, hb⟩
    have HB1 := hid hb
    clear hb
    cases hall : all11 l
    · have HC : Hid (ck11 l lits temps = 110) := ck_all11 hall
      clear hall
      go_wp2_with fail
      go_ret
      exact ⟨by rw [HC.out]; rfl, HB1.out⟩
    · have HALL := hid hall
      clear hall
      go_wp2_with fail
      go_loopw [7] (fun i wr => ∃ j : Nat, j ≤ l.length ∧ i = .int .i64 j ∧ Hid ((l.take j).any (bad11 l.length lits temps) = false) ∧ wr = w1) (fun i _ => l.length + 1 - (intOf i).toNat)
      case atStart => exact ⟨0, by omega, rfl, rfl, rfl⟩
      case round =>
        obtain ⟨j, hjl, rfl, HT, rfl⟩ := hrel
        have hjw : IntKind.i64.wrap ((j : Int) + 1) = (j : Int) + 1 := IntWalk.i64_in _ ⟨by omega, by omega⟩
        have hj0 : (0 : Int) ≤ (j : Int) := by omega
        obtain ⟨b, off, rfl, hlt, hc⟩ := HS.out (by omega)
        by_cases hj : j < l.length
        · have hjI : (j : Int) < (l.length : Int) := by omega
          have ha := hc j _ (List.getElem?_eq_getElem hj)
          have HTK : Hid (l.take (j + 1) = l.take j ++ [l[j]'hj]) := by show _ = _; rw [List.take_succ_eq_append_getElem hj]
          have HMEM : Hid (l[j]'hj ∈ l) := List.getElem_mem hj
          obtain ⟨x, hx⟩ : ∃ x, x = l[j]'hj := ⟨_, rfl⟩
          rw [← hx] at ha HTK HMEM
          obtain ⟨p1, p2, p3, p4⟩ := may_parts11 (all_may11 HALL.out x HMEM.out)
          have BAD : Hid (bad11 l.length lits temps x = true → ck11 l lits temps = 110) := ck_bad11 HMEM.out
          have GOOD : Hid (bad11 l.length lits temps x = false → (l.take (j + 1)).any (bad11 l.length lits temps) = false) := fun h => by rw [HTK.out, List.any_append, HT.out]; simp [h]
          have g0 := cell_later HB1.out ha.1
          have g1 := cell_later HB1.out ha.2
          clear ha hx hc hlt HTK HMEM
          obtain ⟨op, a⟩ := x
          simp only at g0 g1 p1 p2 p3 p4
          rcases (show op = 0 ∨ op = 1 ∨ op = 2 ∨ op = 3 ∨ op = 4 ∨ op = 5 ∨ op = 6 ∨ op = 7 ∨ op = 8 ∨ op = 9 ∨ op = 10 ∨ op = 11 ∨ op = 12 ∨ op = 13 ∨ op = 14 ∨ op = 15 ∨ op = 16 ∨ op = 17 ∨ op = 18 by omega) with rfl | rfl | rfl | rfl | rfl | rfl | rfl | rfl | rfl | rfl | rfl | rfl | rfl | rfl | rfl | rfl | rfl | rfl | rfl
          · have HN := hid (GOOD.out (by simp [bad11]))
            go_wp2_with fail
            go_roundw
            case rel => exact ⟨j + 1, by omega, by go_num, HN, trivial⟩
            case measure => simp only [intOf]; omega
          · by_cases q1 : lits ≤ a
            · have HC : Hid (ck11 l lits temps = 110) := BAD.out (by simp [bad11, q1])
              go_wp2_with fail
              go_ret
              exact ⟨by rw [HC.out]; rfl, HB1.out⟩
            · have HN := hid (GOOD.out (by simp [bad11, q1]))
              go_wp2_with fail
              go_roundw
              case rel => exact ⟨j + 1, by omega, by go_num, HN, trivial⟩
              case measure => simp only [intOf]; omega
          · by_cases q1 : temps ≤ a
            · have HC : Hid (ck11 l lits temps = 110) := BAD.out (by simp [bad11, q1])
              go_wp2_with fail
              go_ret
              exact ⟨by rw [HC.out]; rfl, HB1.out⟩
            · have HN := hid (GOOD.out (by simp [bad11, q1]))
              go_wp2_with fail
              go_roundw
              case rel => exact ⟨j + 1, by omega, by go_num, HN, trivial⟩
              case measure => simp only [intOf]; omega
          · by_cases q1 : 64 ≤ a
            · have HC : Hid (ck11 l lits temps = 110) := BAD.out (by simp [bad11, q1])
              go_wp2_with fail
              go_ret
              exact ⟨by rw [HC.out]; rfl, HB1.out⟩
            · have HN := hid (GOOD.out (by simp [bad11, q1]))
              go_wp2_with fail
              go_roundw
              case rel => exact ⟨j + 1, by omega, by go_num, HN, trivial⟩
              case measure => simp only [intOf]; omega
          · by_cases q1 : temps ≤ a
            · have HC : Hid (ck11 l lits temps = 110) := BAD.out (by simp [bad11, q1])
              go_wp2_with fail
              go_ret
              exact ⟨by rw [HC.out]; rfl, HB1.out⟩
            · have HN := hid (GOOD.out (by simp [bad11, q1]))
              go_wp2_with fail
              go_roundw
              case rel => exact ⟨j + 1, by omega, by go_num, HN, trivial⟩
              case measure => simp only [intOf]; omega
          · by_cases q1 : 64 ≤ a
            · have HC : Hid (ck11 l lits temps = 110) := BAD.out (by simp [bad11, q1])
              go_wp2_with fail
              go_ret
              exact ⟨by rw [HC.out]; rfl, HB1.out⟩
            · have HN := hid (GOOD.out (by simp [bad11, q1]))
              go_wp2_with fail
              go_roundw
              case rel => exact ⟨j + 1, by omega, by go_num, HN, trivial⟩
              case measure => simp only [intOf]; omega
          · have HN := hid (GOOD.out (by simp [bad11]))
            go_wp2_with fail
            go_roundw
            case rel => exact ⟨j + 1, by omega, by go_num, HN, trivial⟩
            case measure => simp only [intOf]; omega
          · have HN := hid (GOOD.out (by simp [bad11]))
            go_wp2_with fail
            go_roundw
            case rel => exact ⟨j + 1, by omega, by go_num, HN, trivial⟩
            case measure => simp only [intOf]; omega
          · by_cases q1 : lits ≤ a / 8
            · have HC : Hid (ck11 l lits temps = 110) := BAD.out (by simp [bad11, q1])
              go_wp2_with fail
              go_ret
              exact ⟨by rw [HC.out]; rfl, HB1.out⟩
            · by_cases q2 : 4 < a % 8
              · have HC : Hid (ck11 l lits temps = 110) := BAD.out (by simp [bad11, q2])
                go_wp2_with fail
                go_ret
                exact ⟨by rw [HC.out]; rfl, HB1.out⟩
              · have HN := hid (GOOD.out (by simp [bad11, q1, q2]))
                go_wp2_with fail
                go_roundw
                case rel => exact ⟨j + 1, by omega, by go_num, HN, trivial⟩
                case measure => simp only [intOf]; omega
          · by_cases q1 : lits ≤ a / 8
            · have HC : Hid (ck11 l lits temps = 110) := BAD.out (by simp [bad11, q1])
              go_wp2_with fail
              go_ret
              exact ⟨by rw [HC.out]; rfl, HB1.out⟩
            · by_cases q2 : 4 < a % 8
              · have HC : Hid (ck11 l lits temps = 110) := BAD.out (by simp [bad11, q2])
                go_wp2_with fail
                go_ret
                exact ⟨by rw [HC.out]; rfl, HB1.out⟩
              · have HN := hid (GOOD.out (by simp [bad11, q1, q2]))
                go_wp2_with fail
                go_roundw
                case rel => exact ⟨j + 1, by omega, by go_num, HN, trivial⟩
                case measure => simp only [intOf]; omega
          · by_cases q1 : (l.length : Int) ≤ a
            · have HC : Hid (ck11 l lits temps = 110) := BAD.out (by simp [bad11, q1])
              go_wp2_with fail
              go_ret
              exact ⟨by rw [HC.out]; rfl, HB1.out⟩
            · have HN := hid (GOOD.out (by simp [bad11, q1]))
              go_wp2_with fail
              go_roundw
              case rel => exact ⟨j + 1, by omega, by go_num, HN, trivial⟩
              case measure => simp only [intOf]; omega
          · by_cases q1 : (l.length : Int) ≤ a
            · have HC : Hid (ck11 l lits temps = 110) := BAD.out (by simp [bad11, q1])
              go_wp2_with fail
              go_ret
              exact ⟨by rw [HC.out]; rfl, HB1.out⟩
            · have HN := hid (GOOD.out (by simp [bad11, q1]))
              go_wp2_with fail
              go_roundw
              case rel => exact ⟨j + 1, by omega, by go_num, HN, trivial⟩
              case measure => simp only [intOf]; omega
          · by_cases q1 : (l.length : Int) ≤ a
            · have HC : Hid (ck11 l lits temps = 110) := BAD.out (by simp [bad11, q1])
              go_wp2_with fail
              go_ret
              exact ⟨by rw [HC.out]; rfl, HB1.out⟩
            · have HN := hid (GOOD.out (by simp [bad11, q1]))
              go_wp2_with fail
              go_roundw
              case rel => exact ⟨j + 1, by omega, by go_num, HN, trivial⟩
              case measure => simp only [intOf]; omega
          · by_cases q1 : lits ≤ a
            · have HC : Hid (ck11 l lits temps = 110) := BAD.out (by simp [bad11, q1])
              go_wp2_with fail
              go_ret
              exact ⟨by rw [HC.out]; rfl, HB1.out⟩
            · have HN := hid (GOOD.out (by simp [bad11, q1]))
              go_wp2_with fail
              go_roundw
              case rel => exact ⟨j + 1, by omega, by go_num, HN, trivial⟩
              case measure => simp only [intOf]; omega
          · have HN := hid (GOOD.out (by simp [bad11]))
            go_wp2_with fail
            go_roundw
            case rel => exact ⟨j + 1, by omega, by go_num, HN, trivial⟩
            case measure => simp only [intOf]; omega
          · have HN := hid (GOOD.out (by simp [bad11]))
            go_wp2_with fail
            go_roundw
            case rel => exact ⟨j + 1, by omega, by go_num, HN, trivial⟩
            case measure => simp only [intOf]; omega
          · by_cases q1 : 8 ≤ a
            · have HC : Hid (ck11 l lits temps = 110) := BAD.out (by simp [bad11, q1])
              go_wp2_with fail
              go_ret
              exact ⟨by rw [HC.out]; rfl, HB1.out⟩
            · have HN := hid (GOOD.out (by simp [bad11, q1]))
              go_wp2_with fail
              go_roundw
              case rel => exact ⟨j + 1, by omega, by go_num, HN, trivial⟩
              case measure => simp only [intOf]; omega
          · by_cases q1 : 8 ≤ a
            · have HC : Hid (ck11 l lits temps = 110) := BAD.out (by simp [bad11, q1])
              go_wp2_with fail
              go_ret
              exact ⟨by rw [HC.out]; rfl, HB1.out⟩
            · have HN := hid (GOOD.out (by simp [bad11, q1]))
              go_wp2_with fail
              go_roundw
              case rel => exact ⟨j + 1, by omega, by go_num, HN, trivial⟩
              case measure => simp only [intOf]; omega
          · have HN := hid (GOOD.out (by simp [bad11]))
            go_wp2_with fail
            go_roundw
            case rel => exact ⟨j + 1, by omega, by go_num, HN, trivial⟩
            case measure => simp only [intOf]; omega
        · obtain rfl : j = l.length := by omega
          have hjI : ¬ (l.length : Int) < (l.length : Int) := by omega
          have HA : Hid (l.any (bad11 l.length lits temps) = false) := by
            show _ = _
            have := HT.out
            rw [List.take_length] at this
            exact this
          have hlast : l.length - 1 < l.length := by omega
          have ha := hc (l.length - 1) _ (List.getElem?_eq_getElem hlast)
          have HE := hid (end_is11 hlast)
          obtain ⟨x, hx⟩ : ∃ x, x = l[l.length - 1]'hlast := ⟨_, rfl⟩
          rw [← hx] at ha HE
          obtain ⟨q, hq⟩ : ∃ q, q = l.length - 1 := ⟨_, rfl⟩
          rw [← hq] at ha
          have hqw : IntKind.i64.wrap ((l.length : Int) - 1) = (q : Int) := by rw [IntWalk.i64_in _ ⟨by omega, by omega⟩]; omega
          have hq0 : (0 : Int) ≤ (q : Int) := by omega
          have hqI : (q : Int) < (l.length : Int) := by omega
          have hqN : q < l.length := by omega
          have g0 := cell_later HB1.out ha.1
          clear ha hx hc hlt hq hlast
          obtain ⟨op, a⟩ := x
          simp only at g0 HE
          by_cases e0 : op = 14
          · subst e0
            have HC : Hid (ck11 l lits temps = 0) := ck_ok11 HALL.out HA.out (by rw [HE.out]; rfl)
            go_wp2_with fail
            go_ret
            exact ⟨by rw [HC.out]; rfl, HB1.out⟩
          · by_cases e1 : op = 15
            · subst e1
              have HC : Hid (ck11 l lits temps = 0) := ck_ok11 HALL.out HA.out (by rw [HE.out]; rfl)
              go_wp2_with fail
              go_ret
              exact ⟨by rw [HC.out]; rfl, HB1.out⟩
            · by_cases e2 : op = 10
              · subst e2
                have HC : Hid (ck11 l lits temps = 0) := ck_ok11 HALL.out HA.out (by rw [HE.out]; rfl)
                go_wp2_with fail
                go_ret
                exact ⟨by rw [HC.out]; rfl, HB1.out⟩
              · have HC : Hid (ck11 l lits temps = 110) := ck_end11 (by rw [HE.out, decide_eq_false e0, decide_eq_false e1, decide_eq_false e2]; rfl)
                have e0B : (op != 14) = true := bne_iff_ne.2 e0
                have e1B : (op != 15) = true := bne_iff_ne.2 e1
                have e2B : (op != 10) = true := bne_iff_ne.2 e2
                go_wp2_with fail
                go_ret
                exact ⟨by rw [HC.out]; rfl, HB1.out⟩
end Go.Proofs.YtalfbdigjaibkaaGreat
