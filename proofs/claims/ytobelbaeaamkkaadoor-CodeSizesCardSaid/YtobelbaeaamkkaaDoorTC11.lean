/- The program's words: what an instruction finds; whether all of a list may be. -/
import Derived.Test.YtobelbaeaamkkaaDoorTB11
import Derived.Shelf.Abstract
namespace Go.Proofs.YtobelbaeaamkkaaDoor
open Go.RowKit
set_option maxRecDepth 100000
set_option maxHeartbeats 3000000 in
theorem pfits_any11 (x : In) (n lits temps : Int) (w : World) (hm : may11 x = true) :
    Calls Tryd.prog 24 #[.agg #[.int .i64 x.op, .int .i64 x.a], .int .i64 n, .int .i64 lits, .int .i64 temps] w fun e w' => e = .returned (.bool (!bad11 n lits temps x)) ∧ Below w.heap.size w w' := by
  obtain ⟨p1, p2, p3, p4⟩ := may_parts11 hm
  clear hm
  obtain ⟨op, a⟩ := x
  simp only at p1 p2 p3 p4
  show Calls Tryd.prog 24 #[.agg #[.int .i64 op, .int .i64 a], .int .i64 n, .int .i64 lits, .int .i64 temps] w _
  have HB := hid (below_alloc w (.cells #[.int .i64 op, .int .i64 a] 34))
  have hX := Lies.new w 34 #[.int .i64 op, .int .i64 a]
  have x0 := hX.cell 0
  have x1 := hX.cell 1
  simp only [List.getElem?_toArray, List.getElem?_cons_zero, List.getElem?_cons_succ] at x0 x1
  clear hX
  have neg : ∀ p q : Int, (!decide (p ≤ q)) = decide (q < p) := fun p q => by by_cases h : p ≤ q <;> simp [h] <;> omega
  have NEG := hid neg
  clear neg
  rcases (show op = 0 ∨ op = 1 ∨ op = 2 ∨ op = 3 ∨ op = 4 ∨ op = 5 ∨ op = 6 ∨ op = 7 ∨ op = 8 ∨ op = 9 ∨ op = 10 ∨ op = 11 ∨ op = 12 ∨ op = 13 ∨ op = 14 ∨ op = 15 ∨ op = 16 ∨ op = 17 ∨ op = 18 by omega) with rfl | rfl | rfl | rfl | rfl | rfl | rfl | rfl | rfl | rfl | rfl | rfl | rfl | rfl | rfl | rfl | rfl | rfl | rfl
  · have HR : Hid ((!bad11 n lits temps ⟨0, a⟩) = true) := by show _ = _; simp [bad11]
    rw [HR.out]
    go_enter Tryd.func24, Tryd.ntmps24
    go_wp2_with fail
    go_ret
    exact ⟨rfl, HB.out⟩
  · have HR : Hid ((!bad11 n lits temps ⟨1, a⟩) = decide (a < lits)) := by show _ = _; rw [← NEG.out]; simp [bad11]
    rw [HR.out]
    go_enter Tryd.func24, Tryd.ntmps24
    go_wp2_with fail
    go_ret
    exact ⟨rfl, HB.out⟩
  · have HR : Hid ((!bad11 n lits temps ⟨2, a⟩) = decide (a < temps)) := by show _ = _; rw [← NEG.out]; simp [bad11]
    rw [HR.out]
    go_enter Tryd.func24, Tryd.ntmps24
    go_wp2_with fail
    go_ret
    exact ⟨rfl, HB.out⟩
  · have HR : Hid ((!bad11 n lits temps ⟨3, a⟩) = decide (a < 64)) := by show _ = _; rw [← NEG.out]; simp [bad11]
    rw [HR.out]
    go_enter Tryd.func24, Tryd.ntmps24
    go_wp2_with fail
    go_ret
    exact ⟨rfl, HB.out⟩
  · have HR : Hid ((!bad11 n lits temps ⟨4, a⟩) = decide (a < temps)) := by show _ = _; rw [← NEG.out]; simp [bad11]
    rw [HR.out]
    go_enter Tryd.func24, Tryd.ntmps24
    go_wp2_with fail
    go_ret
    exact ⟨rfl, HB.out⟩
  · have HR : Hid ((!bad11 n lits temps ⟨5, a⟩) = decide (a < 64)) := by show _ = _; rw [← NEG.out]; simp [bad11]
    rw [HR.out]
    go_enter Tryd.func24, Tryd.ntmps24
    go_wp2_with fail
    go_ret
    exact ⟨rfl, HB.out⟩
  · have HR : Hid ((!bad11 n lits temps ⟨6, a⟩) = true) := by show _ = _; simp [bad11]
    rw [HR.out]
    go_enter Tryd.func24, Tryd.ntmps24
    go_wp2_with fail
    go_ret
    exact ⟨rfl, HB.out⟩
  · have HR : Hid ((!bad11 n lits temps ⟨7, a⟩) = true) := by show _ = _; simp [bad11]
    rw [HR.out]
    go_enter Tryd.func24, Tryd.ntmps24
    go_wp2_with fail
    go_ret
    exact ⟨rfl, HB.out⟩
  · by_cases q1 : lits ≤ a / 8
    · have HR : Hid ((!bad11 n lits temps ⟨8, a⟩) = false) := by show _ = _; simp [bad11, q1]
      rw [HR.out]
      go_enter Tryd.func24, Tryd.ntmps24
      go_wp2_with fail
      go_ret
      exact ⟨by first | rfl | simp [q1] | simp [q2b], HB.out⟩
    · by_cases q2 : 4 < a % 8
      · have q2b : ¬ a % 8 ≤ 4 := by omega
        have HR : Hid ((!bad11 n lits temps ⟨8, a⟩) = false) := by show _ = _; simp [bad11, q2]
        rw [HR.out]
        go_enter Tryd.func24, Tryd.ntmps24
        go_wp2_with fail
        go_ret
        exact ⟨by first | rfl | simp [q1] | simp [q2b], HB.out⟩
      · have q2b : a % 8 ≤ 4 := by omega
        have HR : Hid ((!bad11 n lits temps ⟨8, a⟩) = true) := by show _ = _; simp [bad11, q1, q2b]
        rw [HR.out]
        go_enter Tryd.func24, Tryd.ntmps24
        go_wp2_with fail
        go_ret
        exact ⟨by first | rfl | simp [q1] | simp [q2b], HB.out⟩
  · by_cases q1 : lits ≤ a / 8
    · have HR : Hid ((!bad11 n lits temps ⟨9, a⟩) = false) := by show _ = _; simp [bad11, q1]
      rw [HR.out]
      go_enter Tryd.func24, Tryd.ntmps24
      go_wp2_with fail
      go_ret
      exact ⟨by first | rfl | simp [q1] | simp [q2b], HB.out⟩
    · by_cases q2 : 4 < a % 8
      · have q2b : ¬ a % 8 ≤ 4 := by omega
        have HR : Hid ((!bad11 n lits temps ⟨9, a⟩) = false) := by show _ = _; simp [bad11, q2]
        rw [HR.out]
        go_enter Tryd.func24, Tryd.ntmps24
        go_wp2_with fail
        go_ret
        exact ⟨by first | rfl | simp [q1] | simp [q2b], HB.out⟩
      · have q2b : a % 8 ≤ 4 := by omega
        have HR : Hid ((!bad11 n lits temps ⟨9, a⟩) = true) := by show _ = _; simp [bad11, q1, q2b]
        rw [HR.out]
        go_enter Tryd.func24, Tryd.ntmps24
        go_wp2_with fail
        go_ret
        exact ⟨by first | rfl | simp [q1] | simp [q2b], HB.out⟩
  · have HR : Hid ((!bad11 n lits temps ⟨10, a⟩) = decide (a < n)) := by show _ = _; rw [← NEG.out]; simp [bad11]
    rw [HR.out]
    go_enter Tryd.func24, Tryd.ntmps24
    go_wp2_with fail
    go_ret
    exact ⟨rfl, HB.out⟩
  · have HR : Hid ((!bad11 n lits temps ⟨11, a⟩) = decide (a < n)) := by show _ = _; rw [← NEG.out]; simp [bad11]
    rw [HR.out]
    go_enter Tryd.func24, Tryd.ntmps24
    go_wp2_with fail
    go_ret
    exact ⟨rfl, HB.out⟩
  · have HR : Hid ((!bad11 n lits temps ⟨12, a⟩) = decide (a < n)) := by show _ = _; rw [← NEG.out]; simp [bad11]
    rw [HR.out]
    go_enter Tryd.func24, Tryd.ntmps24
    go_wp2_with fail
    go_ret
    exact ⟨rfl, HB.out⟩
  · have HR : Hid ((!bad11 n lits temps ⟨13, a⟩) = decide (a < lits)) := by show _ = _; rw [← NEG.out]; simp [bad11]
    rw [HR.out]
    go_enter Tryd.func24, Tryd.ntmps24
    go_wp2_with fail
    go_ret
    exact ⟨rfl, HB.out⟩
  · have HR : Hid ((!bad11 n lits temps ⟨14, a⟩) = true) := by show _ = _; simp [bad11]
    rw [HR.out]
    go_enter Tryd.func24, Tryd.ntmps24
    go_wp2_with fail
    go_ret
    exact ⟨rfl, HB.out⟩
  · have HR : Hid ((!bad11 n lits temps ⟨15, a⟩) = true) := by show _ = _; simp [bad11]
    rw [HR.out]
    go_enter Tryd.func24, Tryd.ntmps24
    go_wp2_with fail
    go_ret
    exact ⟨rfl, HB.out⟩
  · have HR : Hid ((!bad11 n lits temps ⟨16, a⟩) = decide (a < 8)) := by show _ = _; rw [← NEG.out]; simp [bad11]
    rw [HR.out]
    go_enter Tryd.func24, Tryd.ntmps24
    go_wp2_with fail
    go_ret
    exact ⟨rfl, HB.out⟩
  · have HR : Hid ((!bad11 n lits temps ⟨17, a⟩) = decide (a < 8)) := by show _ = _; rw [← NEG.out]; simp [bad11]
    rw [HR.out]
    go_enter Tryd.func24, Tryd.ntmps24
    go_wp2_with fail
    go_ret
    exact ⟨rfl, HB.out⟩
  · have HR : Hid ((!bad11 n lits temps ⟨18, a⟩) = true) := by show _ = _; simp [bad11]
    rw [HR.out]
    go_enter Tryd.func24, Tryd.ntmps24
    go_wp2_with fail
    go_ret
    exact ⟨rfl, HB.out⟩
/-- where the first one lies that may not be -/
def IdP11 (l : List In) (w : World) (e : Ending) (w' : World) : Prop := (∃ k : Int, e = .returned (.int .i64 k) ∧ decide (0 ≤ k) = l.any (fun x => !may11 x)) ∧ Below w.heap.size w w'
set_option maxHeartbeats 1000000 in
theorem pindex_any11 (l : List In) (A : Option Addr) (c : Nat) (w : World) (hs : InsR w A l) (fl : l.length ≤ 1000) : Calls Tryd.prog 48 #[.slice A l.length c, .func (.func 36) #[] #[]] w (IdP11 l w) := by
  have HS := hid hs
  have eg := Go.Proofs.enters_of Tryd.func36 (by kernel_rfl) rfl
  have hl1 : (l.length : Int) ≤ 1000 := by omega
  clear hs
  go_enter Tryd.func48, Tryd.ntmps48
  go_wp2_with fail
  go_loopw [5, 8] (fun _ i wr => ∃ j : Nat, j ≤ l.length ∧ i = .int .i64 j ∧ Hid ((l.take j).any (fun x => !may11 x) = false) ∧ Below w.heap.size w wr) (fun _ i _ => l.length + 1 - (intOf i).toNat)
  case atStart => exact ⟨0, by omega, rfl, rfl, Below.refl _ _⟩
  case round =>
    rename World => w50
    obtain ⟨j, hjl, rfl, HT, hb⟩ := hrel
    have HB := hid hb
    clear hb
    have hjw : IntKind.i64.wrap ((j : Int) + 1) = (j : Int) + 1 := IntWalk.i64_in _ ⟨by omega, by omega⟩
    have hj0 : (0 : Int) ≤ (j : Int) := by omega
    by_cases hj : j < l.length
    · have hjI : (j : Int) < (l.length : Int) := by omega
      obtain ⟨b, off, rfl, hlt, hc⟩ := HS.out (by omega)
      have ha := hc j _ (List.getElem?_eq_getElem hj)
      have HTK : Hid (l.take (j + 1) = l.take j ++ [l[j]'hj]) := by show _ = _; rw [List.take_succ_eq_append_getElem hj]
      have HMEM : Hid (l[j]'hj ∈ l) := List.getElem_mem hj
      obtain ⟨x, hx⟩ : ∃ x, x = l[j]'hj := ⟨_, rfl⟩
      rw [← hx] at ha HTK HMEM
      have g0 := cell_later HB.out ha.1
      have g1 := cell_later HB.out ha.2
      clear ha hx hc
      go_wp2_with fail
      refine (pnot_any11 x _).mono ?_
      rintro e w1 ⟨rfl, hb⟩
      have HB1 := hid (HB.out.trans (hb.mono HB.out.size))
      clear hb g0 g1
      cases hm : may11 x
      · have HR : Hid (l.any (fun x => !may11 x) = true) := List.any_eq_true.2 ⟨x, HMEM.out, by rw [hm]; rfl⟩
        clear hm
        go_wp2_with fail
        go_ret
        exact ⟨⟨_, rfl, by rw [HR.out]; exact decide_eq_true hj0⟩, HB1.out⟩
      · have HT2 : Hid ((l.take (j + 1)).any (fun x => !may11 x) = false) := by show _ = _; rw [HTK.out, List.any_append, HT.out]; simp [hm]
        clear hm
        go_wp2_with fail
        go_roundw
        case rel => exact ⟨j + 1, by omega, by go_num, HT2, HB1.out⟩
        case measure => simp only [intOf]; omega
    · obtain rfl : j = l.length := by omega
      have HR : Hid (l.any (fun x => !may11 x) = false) := by show _ = _; rw [← HT.out, List.take_length]
      go_wp2_with fail
      go_ret
      exact ⟨⟨_, rfl, by rw [HR.out]; rfl⟩, HB.out⟩
theorem pcont_any11 (l : List In) (A : Option Addr) (c : Nat) (w : World) (hs : InsR w A l) (fl : l.length ≤ 1000) : Calls Tryd.prog 37 #[.slice A l.length c, .func (.func 36) #[] #[]] w fun e w' => e = .returned (.bool (l.any fun x => !may11 x)) ∧ Below w.heap.size w w' := by
  obtain ⟨v, hv⟩ : ∃ v, v = l.any fun x => !may11 x := ⟨_, rfl⟩
  have HV := hid hv
  rw [← hv]
  clear hv
  go_enter Tryd.func37, Tryd.ntmps37
  go_wp2_with fail
  refine (pindex_any11 l A c _ hs fl).mono ?_
  rintro e w1 ⟨⟨k, rfl, hk⟩, hb⟩
  rw [← HV.out] at hk
  have HK := hid hk
  have HB := hid hb
  clear hk hb hs
  go_wp2_with fail
  go_ret
  exact ⟨by rw [← HK.out]; rfl, HB.out⟩
theorem any_all11 (l : List In) : (!l.any fun x => !may11 x) = l.all may11 := by
  induction l with
  | nil => rfl
  | cons x l ih => rw [List.any_cons, List.all_cons, Bool.not_or, ih, Bool.not_not]
theorem pall_any11 (l : List In) (A : Option Addr) (c : Nat) (w : World) (hs : InsR w A l) (fl : l.length ≤ 1000) : Calls Tryd.prog 22 #[.slice A l.length c] w fun e w' => e = .returned (.bool (all11 l)) ∧ Below w.heap.size w w' := by
  have hl1 : (l.length : Int) ≤ 1000 := by omega
  by_cases h : l.length ≤ 32
  · have hI : (l.length : Int) ≤ 32 := by omega
    have HR : Hid (all11 l = !l.any fun x => !may11 x) := by show _ = _; rw [any_all11]; simp [all11, h]
    rw [HR.out]
    obtain ⟨v, hv⟩ : ∃ v, v = l.any fun x => !may11 x := ⟨_, rfl⟩
    have HC : ∀ w0, InsR w0 A l → Calls Tryd.prog 37 #[.slice A l.length c, .func (.func 36) #[] #[]] w0 fun e w' => e = .returned (.bool v) ∧ Below w0.heap.size w0 w' := fun w0 h0 => by rw [hv]; exact pcont_any11 l A c w0 h0 fl
    rw [← hv]
    have HHC := hid HC
    clear HC hv HR
    go_enter Tryd.func22, Tryd.ntmps22
    go_wp2_with fail
    refine (HHC.out _ hs).mono ?_
    rintro e w1 ⟨rfl, hb⟩
    have HB := hid hb
    clear hb hs
    go_wp2_with fail
    go_ret
    exact ⟨rfl, HB.out⟩
  · have hI : ¬ (l.length : Int) ≤ 32 := by omega
    have HR : Hid (all11 l = false) := by show _ = _; simp [all11]; omega
    rw [HR.out]
    clear HR hs
    go_enter Tryd.func22, Tryd.ntmps22
    go_wp2_with fail
    go_ret
    exact ⟨rfl, Below.refl _ _⟩
end Go.Proofs.YtobelbaeaamkkaaDoor
