/- The program's small words on instructions: which have an argument, which send, which end, which may be, what they find. The program's words: what an instruction finds; whether all of a list may be. The program's Check. -/
import Derived.Test.YtalfbdigjaibkaaGreatSE11
import Derived.Shelf.Abstract
namespace Go.Proofs.YtalfbdigjaibkaaGreat
open Go.RowKit
set_option maxRecDepth 100000
theorem phas_any11 (op : Int) (w : World) : Calls Tryz.prog 111 #[.int .i64 op] w fun e w' => e = .returned (.bool (!no11 op)) ∧ w = w' := by
  have fin : ∀ b : Bool, no11 op = b → ∀ c : Bool, c = !b → Ending.returned (.bool c) = .returned (.bool (!no11 op)) := fun b h c k => by rw [h, k]
  have HF := hid fin
  clear fin
  by_cases h0 : op = 0
  · subst h0
    go_enter Tryz.func111, Tryz.ntmps111
    go_wp2_with fail
    go_ret
    exact ⟨HF.out true rfl _ rfl, rfl⟩
  by_cases h1 : op = 6
  · subst h1
    go_enter Tryz.func111, Tryz.ntmps111
    go_wp2_with fail
    go_ret
    exact ⟨HF.out true rfl _ rfl, rfl⟩
  by_cases h2 : op = 7
  · subst h2
    go_enter Tryz.func111, Tryz.ntmps111
    go_wp2_with fail
    go_ret
    exact ⟨HF.out true rfl _ rfl, rfl⟩
  by_cases h3 : op = 14
  · subst h3
    go_enter Tryz.func111, Tryz.ntmps111
    go_wp2_with fail
    go_ret
    exact ⟨HF.out true rfl _ rfl, rfl⟩
  by_cases h4 : op = 15
  · subst h4
    go_enter Tryz.func111, Tryz.ntmps111
    go_wp2_with fail
    go_ret
    exact ⟨HF.out true rfl _ rfl, rfl⟩
  by_cases h5 : op = 18
  · subst h5
    go_enter Tryz.func111, Tryz.ntmps111
    go_wp2_with fail
    go_ret
    exact ⟨HF.out true rfl _ rfl, rfl⟩
  have HN : Hid (no11 op = false) := by
    show no11 op = false
    simp [no11, h0, h1, h2, h3, h4, h5]
  go_enter Tryz.func111, Tryz.ntmps111
  go_wp2_with fail
  go_ret
  exact ⟨HF.out false HN.out _ rfl, rfl⟩
theorem plast_any11 (op : Int) (w : World) : Calls Tryz.prog 100 #[.int .i64 op] w fun e w' => e = .returned (.bool (decide (op = 14) || (decide (op = 15) || decide (op = 10)))) ∧ w = w' := by
  by_cases h0 : op = 14
  · subst h0
    go_enter Tryz.func100, Tryz.ntmps100
    go_wp2_with fail
    go_ret
    exact ⟨rfl, rfl⟩
  by_cases h1 : op = 15
  · subst h1
    go_enter Tryz.func100, Tryz.ntmps100
    go_wp2_with fail
    go_ret
    exact ⟨rfl, rfl⟩
  by_cases h2 : op = 10
  · subst h2
    go_enter Tryz.func100, Tryz.ntmps100
    go_wp2_with fail
    go_ret
    exact ⟨rfl, rfl⟩
  have HN : Hid ((decide (op = 14) || (decide (op = 15) || decide (op = 10))) = false) := by
    show _ = false
    simp [h0, h1, h2]
  have h0B : (op == 14) = false := beq_eq_false_iff_ne.2 h0
  have h1B : (op == 15) = false := beq_eq_false_iff_ne.2 h1
  have h2B : (op == 10) = false := beq_eq_false_iff_ne.2 h2
  rw [HN.out]
  go_enter Tryz.func100, Tryz.ntmps100
  go_wp2_with fail
  go_ret
  exact ⟨rfl, rfl⟩
set_option maxHeartbeats 1000000 in
theorem pmay_any11 (x : In) (w : World) : Calls Tryz.prog 98 #[.agg #[.int .i64 x.op, .int .i64 x.a]] w fun e w' => e = .returned (.bool (may11 x)) ∧ Below w.heap.size w w' := by
  obtain ⟨op, a⟩ := x
  show Calls Tryz.prog 98 #[.agg #[.int .i64 op, .int .i64 a]] w _
  have HB := hid (below_alloc w (.cells #[.int .i64 op, .int .i64 a] 37))
  have hX := Lies.new w 37 #[.int .i64 op, .int .i64 a]
  obtain ⟨x0, x1⟩ := hX.c2
  have HMAY : Hid (may11 ⟨op, a⟩ = (decide (0 ≤ op) && (decide (op ≤ 18) && (decide (0 ≤ a) && (decide (a ≤ 255) && (decide (a = 0) || !no11 op)))))) := rfl
  clear hX
  by_cases h1 : 0 ≤ op
  · by_cases h2 : op ≤ 18
    · have h1b : ¬ op < 0 := by omega
      have h2b : ¬ 19 ≤ op := by omega
      by_cases h0 : a = 0
      · subst h0
        have HR : Hid (may11 ⟨op, 0⟩ = true) := by
          show _ = true
          rw [HMAY.out]
          simp [h1, h2]
        rw [HR.out]
        clear HMAY
        go_enter Tryz.func98, Tryz.ntmps98
        go_wp2_with fail
        go_ret
        exact ⟨rfl, HB.out⟩
      · have h0B : (a == 0) = false := beq_eq_false_iff_ne.2 h0
        cases hn : no11 op
        · by_cases h3 : 0 < a
          · by_cases h4 : a ≤ 255
            · have HR : Hid (may11 ⟨op, a⟩ = true) := by
                show _ = true
                rw [HMAY.out]
                simp [h1, h2, h4, hn, show 0 ≤ a by omega]
              rw [HR.out]
              have HNO := hid hn
              clear hn
              clear HMAY
              go_enter Tryz.func98, Tryz.ntmps98
              go_wp2_with fail
              refine (phas_any11 op _).mono ?_
              rintro e w1 ⟨rfl, rfl⟩
              rw [HNO.out]
              go_wp2_with fail
              go_ret
              exact ⟨by simp, HB.out⟩
            · have h4b : ¬ a ≤ 255 := h4
              have HR : Hid (may11 ⟨op, a⟩ = false) := by
                show _ = false
                rw [HMAY.out]
                simp [h4]
              rw [HR.out]
              have HNO := hid hn
              clear hn
              clear HMAY
              go_enter Tryz.func98, Tryz.ntmps98
              go_wp2_with fail
              refine (phas_any11 op _).mono ?_
              rintro e w1 ⟨rfl, rfl⟩
              rw [HNO.out]
              go_wp2_with fail
              go_ret
              exact ⟨by simp [h4], HB.out⟩
          · have HR : Hid (may11 ⟨op, a⟩ = false) := by
              show _ = false
              rw [HMAY.out]
              simp [show ¬ 0 ≤ a by omega]
            rw [HR.out]
            have HNO := hid hn
            clear hn
            clear HMAY
            go_enter Tryz.func98, Tryz.ntmps98
            go_wp2_with fail
            refine (phas_any11 op _).mono ?_
            rintro e w1 ⟨rfl, rfl⟩
            rw [HNO.out]
            go_wp2_with fail
            go_ret
            exact ⟨rfl, HB.out⟩
        · have HNO := hid hn
          have HR : Hid (may11 ⟨op, a⟩ = false) := by
            show _ = false
            rw [HMAY.out]
            simp [hn, h0]
          rw [HR.out]
          clear hn
          clear HMAY
          go_enter Tryz.func98, Tryz.ntmps98
          go_wp2_with fail
          refine (phas_any11 op _).mono ?_
          rintro e w1 ⟨rfl, rfl⟩
          rw [HNO.out]
          go_wp2_with fail
          go_ret
          exact ⟨rfl, HB.out⟩
    · have h1b : ¬ op < 0 := by omega
      have h2b : 19 ≤ op := by omega
      have HR : Hid (may11 ⟨op, a⟩ = false) := by
        show _ = false
        rw [HMAY.out]
        simp [h2]
      rw [HR.out]
      clear HMAY
      go_enter Tryz.func98, Tryz.ntmps98
      go_wp2_with fail
      go_ret
      exact ⟨rfl, HB.out⟩
  · have h1b : op < 0 := by omega
    have HR : Hid (may11 ⟨op, a⟩ = false) := by
      show _ = false
      rw [HMAY.out]
      simp [h1]
    rw [HR.out]
    clear HMAY
    go_enter Tryz.func98, Tryz.ntmps98
    go_wp2_with fail
    go_ret
    exact ⟨rfl, HB.out⟩
theorem pnot_any11 (x : In) (w : World) : Calls Tryz.prog 112 #[.agg #[.int .i64 x.op, .int .i64 x.a]] w fun e w' => e = .returned (.bool (!may11 x)) ∧ Below w.heap.size w w' := by
  obtain ⟨op, a⟩ := x
  show Calls Tryz.prog 112 #[.agg #[.int .i64 op, .int .i64 a]] w _
  have hX := Lies.new w 37 #[.int .i64 op, .int .i64 a]
  have hb0 := hid (below_alloc w (.cells #[.int .i64 op, .int .i64 a] 37))
  obtain ⟨x0, x1⟩ := hX.c2
  clear hX
  go_enter Tryz.func112, Tryz.ntmps112
  go_wp2_with fail
  refine (pmay_any11 ⟨op, a⟩ _).mono ?_
  rintro e w1 ⟨rfl, hb⟩
  have HB := hid (hb0.out.trans (hb.mono hb0.out.size))
  clear hb x0 x1
  go_wp2_with fail
  go_ret
  exact ⟨rfl, HB.out⟩
end Go.Proofs.YtalfbdigjaibkaaGreat
namespace Go.Proofs.YtalfbdigjaibkaaGreat
open Go.RowKit
set_option maxRecDepth 100000
set_option maxHeartbeats 3000000 in
theorem pfits_any11 (x : In) (n lits temps : Int) (w : World) (hm : may11 x = true) :
    Calls Tryz.prog 101 #[.agg #[.int .i64 x.op, .int .i64 x.a], .int .i64 n, .int .i64 lits, .int .i64 temps] w fun e w' => e = .returned (.bool (!bad11 n lits temps x)) ∧ Below w.heap.size w w' := by
  obtain ⟨p1, p2, p3, p4⟩ := may_parts11 hm
  clear hm
  obtain ⟨op, a⟩ := x
  simp only at p1 p2 p3 p4
  show Calls Tryz.prog 101 #[.agg #[.int .i64 op, .int .i64 a], .int .i64 n, .int .i64 lits, .int .i64 temps] w _
  have HB := hid (below_alloc w (.cells #[.int .i64 op, .int .i64 a] 37))
  have hX := Lies.new w 37 #[.int .i64 op, .int .i64 a]
  obtain ⟨x0, x1⟩ := hX.c2
  clear hX
  have neg : ∀ p q : Int, (!decide (p ≤ q)) = decide (q < p) := fun p q => by by_cases h : p ≤ q <;> simp [h] <;> omega
  have NEG := hid neg
  clear neg
  rcases (show op = 0 ∨ op = 1 ∨ op = 2 ∨ op = 3 ∨ op = 4 ∨ op = 5 ∨ op = 6 ∨ op = 7 ∨ op = 8 ∨ op = 9 ∨ op = 10 ∨ op = 11 ∨ op = 12 ∨ op = 13 ∨ op = 14 ∨ op = 15 ∨ op = 16 ∨ op = 17 ∨ op = 18 by omega) with rfl | rfl | rfl | rfl | rfl | rfl | rfl | rfl | rfl | rfl | rfl | rfl | rfl | rfl | rfl | rfl | rfl | rfl | rfl
  · have HR : Hid ((!bad11 n lits temps ⟨0, a⟩) = true) := by show _ = _; simp [bad11]
    rw [HR.out]
    go_enter Tryz.func101, Tryz.ntmps101
    go_wp2_with fail
    go_ret
    exact ⟨rfl, HB.out⟩
  · have HR : Hid ((!bad11 n lits temps ⟨1, a⟩) = decide (a < lits)) := by show _ = _; rw [← NEG.out]; simp [bad11]
    rw [HR.out]
    go_enter Tryz.func101, Tryz.ntmps101
    go_wp2_with fail
    go_ret
    exact ⟨rfl, HB.out⟩
  · have HR : Hid ((!bad11 n lits temps ⟨2, a⟩) = decide (a < temps)) := by show _ = _; rw [← NEG.out]; simp [bad11]
    rw [HR.out]
    go_enter Tryz.func101, Tryz.ntmps101
    go_wp2_with fail
    go_ret
    exact ⟨rfl, HB.out⟩
  · have HR : Hid ((!bad11 n lits temps ⟨3, a⟩) = decide (a < 64)) := by show _ = _; rw [← NEG.out]; simp [bad11]
    rw [HR.out]
    go_enter Tryz.func101, Tryz.ntmps101
    go_wp2_with fail
    go_ret
    exact ⟨rfl, HB.out⟩
  · have HR : Hid ((!bad11 n lits temps ⟨4, a⟩) = decide (a < temps)) := by show _ = _; rw [← NEG.out]; simp [bad11]
    rw [HR.out]
    go_enter Tryz.func101, Tryz.ntmps101
    go_wp2_with fail
    go_ret
    exact ⟨rfl, HB.out⟩
  · have HR : Hid ((!bad11 n lits temps ⟨5, a⟩) = decide (a < 64)) := by show _ = _; rw [← NEG.out]; simp [bad11]
    rw [HR.out]
    go_enter Tryz.func101, Tryz.ntmps101
    go_wp2_with fail
    go_ret
    exact ⟨rfl, HB.out⟩
  · have HR : Hid ((!bad11 n lits temps ⟨6, a⟩) = true) := by show _ = _; simp [bad11]
    rw [HR.out]
    go_enter Tryz.func101, Tryz.ntmps101
    go_wp2_with fail
    go_ret
    exact ⟨rfl, HB.out⟩
  · have HR : Hid ((!bad11 n lits temps ⟨7, a⟩) = true) := by show _ = _; simp [bad11]
    rw [HR.out]
    go_enter Tryz.func101, Tryz.ntmps101
    go_wp2_with fail
    go_ret
    exact ⟨rfl, HB.out⟩
  · by_cases q1 : lits ≤ a / 8
    · have HR : Hid ((!bad11 n lits temps ⟨8, a⟩) = false) := by show _ = _; simp [bad11, q1]
      rw [HR.out]
      go_enter Tryz.func101, Tryz.ntmps101
      go_wp2_with fail
      go_ret
      exact ⟨by first | rfl | simp [q1] | simp [q2b], HB.out⟩
    · by_cases q2 : 4 < a % 8
      · have q2b : ¬ a % 8 ≤ 4 := by omega
        have HR : Hid ((!bad11 n lits temps ⟨8, a⟩) = false) := by show _ = _; simp [bad11, q2]
        rw [HR.out]
        go_enter Tryz.func101, Tryz.ntmps101
        go_wp2_with fail
        go_ret
        exact ⟨by first | rfl | simp [q1] | simp [q2b], HB.out⟩
      · have q2b : a % 8 ≤ 4 := by omega
        have HR : Hid ((!bad11 n lits temps ⟨8, a⟩) = true) := by show _ = _; simp [bad11, q1, q2b]
        rw [HR.out]
        go_enter Tryz.func101, Tryz.ntmps101
        go_wp2_with fail
        go_ret
        exact ⟨by first | rfl | simp [q1] | simp [q2b], HB.out⟩
  · by_cases q1 : lits ≤ a / 8
    · have HR : Hid ((!bad11 n lits temps ⟨9, a⟩) = false) := by show _ = _; simp [bad11, q1]
      rw [HR.out]
      go_enter Tryz.func101, Tryz.ntmps101
      go_wp2_with fail
      go_ret
      exact ⟨by first | rfl | simp [q1] | simp [q2b], HB.out⟩
    · by_cases q2 : 4 < a % 8
      · have q2b : ¬ a % 8 ≤ 4 := by omega
        have HR : Hid ((!bad11 n lits temps ⟨9, a⟩) = false) := by show _ = _; simp [bad11, q2]
        rw [HR.out]
        go_enter Tryz.func101, Tryz.ntmps101
        go_wp2_with fail
        go_ret
        exact ⟨by first | rfl | simp [q1] | simp [q2b], HB.out⟩
      · have q2b : a % 8 ≤ 4 := by omega
        have HR : Hid ((!bad11 n lits temps ⟨9, a⟩) = true) := by show _ = _; simp [bad11, q1, q2b]
        rw [HR.out]
        go_enter Tryz.func101, Tryz.ntmps101
        go_wp2_with fail
        go_ret
        exact ⟨by first | rfl | simp [q1] | simp [q2b], HB.out⟩
  · have HR : Hid ((!bad11 n lits temps ⟨10, a⟩) = decide (a < n)) := by show _ = _; rw [← NEG.out]; simp [bad11]
    rw [HR.out]
    go_enter Tryz.func101, Tryz.ntmps101
    go_wp2_with fail
    go_ret
    exact ⟨rfl, HB.out⟩
  · have HR : Hid ((!bad11 n lits temps ⟨11, a⟩) = decide (a < n)) := by show _ = _; rw [← NEG.out]; simp [bad11]
    rw [HR.out]
    go_enter Tryz.func101, Tryz.ntmps101
    go_wp2_with fail
    go_ret
    exact ⟨rfl, HB.out⟩
  · have HR : Hid ((!bad11 n lits temps ⟨12, a⟩) = decide (a < n)) := by show _ = _; rw [← NEG.out]; simp [bad11]
    rw [HR.out]
    go_enter Tryz.func101, Tryz.ntmps101
    go_wp2_with fail
    go_ret
    exact ⟨rfl, HB.out⟩
  · have HR : Hid ((!bad11 n lits temps ⟨13, a⟩) = decide (a < lits)) := by show _ = _; rw [← NEG.out]; simp [bad11]
    rw [HR.out]
    go_enter Tryz.func101, Tryz.ntmps101
    go_wp2_with fail
    go_ret
    exact ⟨rfl, HB.out⟩
  · have HR : Hid ((!bad11 n lits temps ⟨14, a⟩) = true) := by show _ = _; simp [bad11]
    rw [HR.out]
    go_enter Tryz.func101, Tryz.ntmps101
    go_wp2_with fail
    go_ret
    exact ⟨rfl, HB.out⟩
  · have HR : Hid ((!bad11 n lits temps ⟨15, a⟩) = true) := by show _ = _; simp [bad11]
    rw [HR.out]
    go_enter Tryz.func101, Tryz.ntmps101
    go_wp2_with fail
    go_ret
    exact ⟨rfl, HB.out⟩
  · have HR : Hid ((!bad11 n lits temps ⟨16, a⟩) = decide (a < 8)) := by show _ = _; rw [← NEG.out]; simp [bad11]
    rw [HR.out]
    go_enter Tryz.func101, Tryz.ntmps101
    go_wp2_with fail
    go_ret
    exact ⟨rfl, HB.out⟩
  · have HR : Hid ((!bad11 n lits temps ⟨17, a⟩) = decide (a < 8)) := by show _ = _; rw [← NEG.out]; simp [bad11]
    rw [HR.out]
    go_enter Tryz.func101, Tryz.ntmps101
    go_wp2_with fail
    go_ret
    exact ⟨rfl, HB.out⟩
  · have HR : Hid ((!bad11 n lits temps ⟨18, a⟩) = true) := by show _ = _; simp [bad11]
    rw [HR.out]
    go_enter Tryz.func101, Tryz.ntmps101
    go_wp2_with fail
    go_ret
    exact ⟨rfl, HB.out⟩
/-- where the first one lies that may not be -/
def IdP11 (l : List In) (w : World) (e : Ending) (w' : World) : Prop := (∃ k : Int, e = .returned (.int .i64 k) ∧ decide (0 ≤ k) = l.any (fun x => !may11 x)) ∧ Below w.heap.size w w'
set_option maxHeartbeats 1000000 in
theorem pindex_any11 (l : List In) (A : Option Addr) (c : Nat) (w : World) (hs : InsR w A l) (fl : l.length ≤ 1000) : Calls Tryz.prog 122 #[.slice A l.length c, .func (.func 112) #[] #[]] w (IdP11 l w) := by
  have HS := hid hs
  have eg := Go.Proofs.enters_of Tryz.func112 (by kernel_rfl) rfl
  have hl1 : (l.length : Int) ≤ 1000 := by omega
  clear hs
  go_enter Tryz.func122, Tryz.ntmps122
  go_wp2_with fail
  go_loopw [5, 8] (fun _ i wr => ∃ j : Nat, j ≤ l.length ∧ i = .int .i64 j ∧ Hid ((l.take j).any (fun x => !may11 x) = false) ∧ Below w.heap.size w wr) (fun _ i _ => l.length + 1 - (intOf i).toNat)
  case atStart => exact ⟨0, by omega, rfl, rfl, Below.refl _ _⟩
  case round =>
    rename World => w50
    obtain ⟨j, hjl, rfl, HT, hb⟩ := hrel
    have HB := hid hb
    clear hb
    have hjw : IntKind.i64.wrap ((j : Int) + 1) = (j : Int) + 1 := IntWalk.i64_in _ ⟨by omega, by omega⟩
    have hj0 : (0 : Int) ≤ (j : Int) := by omega
    by_cases hj : j < l.length
    · have hjI : (j : Int) < (l.length : Int) := by omega
      obtain ⟨b, off, rfl, hlt, hc⟩ := HS.out (by omega)
      have ha := hc j _ (List.getElem?_eq_getElem hj)
      have HTK : Hid (l.take (j + 1) = l.take j ++ [l[j]'hj]) := by show _ = _; rw [List.take_succ_eq_append_getElem hj]
      have HMEM : Hid (l[j]'hj ∈ l) := List.getElem_mem hj
      obtain ⟨x, hx⟩ : ∃ x, x = l[j]'hj := ⟨_, rfl⟩
      rw [← hx] at ha HTK HMEM
      have g0 := cell_later HB.out ha.1
      have g1 := cell_later HB.out ha.2
      clear ha hx hc
      go_wp2_with fail
      refine (pnot_any11 x _).mono ?_
      rintro e w1 ⟨rfl, hb⟩
      have HB1 := hid (HB.out.trans (hb.mono HB.out.size))
      clear hb g0 g1
      cases hm : may11 x
      · have HR : Hid (l.any (fun x => !may11 x) = true) := List.any_eq_true.2 ⟨x, HMEM.out, by rw [hm]; rfl⟩
        clear hm
        go_wp2_with fail
        go_ret
        exact ⟨⟨_, rfl, by rw [HR.out]; exact decide_eq_true hj0⟩, HB1.out⟩
      · have HT2 : Hid ((l.take (j + 1)).any (fun x => !may11 x) = false) := by show _ = _; rw [HTK.out, List.any_append, HT.out]; simp [hm]
        clear hm
        go_wp2_with fail
        go_roundw
        case rel => exact ⟨j + 1, by omega, by go_num, HT2, HB1.out⟩
        case measure => simp only [intOf]; omega
    · obtain rfl : j = l.length := by omega
      have HR : Hid (l.any (fun x => !may11 x) = false) := by show _ = _; rw [← HT.out, List.take_length]
      go_wp2_with fail
      go_ret
      exact ⟨⟨_, rfl, by rw [HR.out]; rfl⟩, HB.out⟩
theorem pcont_any11 (l : List In) (A : Option Addr) (c : Nat) (w : World) (hs : InsR w A l) (fl : l.length ≤ 1000) : Calls Tryz.prog 113 #[.slice A l.length c, .func (.func 112) #[] #[]] w fun e w' => e = .returned (.bool (l.any fun x => !may11 x)) ∧ Below w.heap.size w w' := by
  obtain ⟨v, hv⟩ : ∃ v, v = l.any fun x => !may11 x := ⟨_, rfl⟩
  have HV := hid hv
  rw [← hv]
  clear hv
  go_enter Tryz.func113, Tryz.ntmps113
  go_wp2_with fail
  refine (pindex_any11 l A c _ hs fl).mono ?_
  rintro e w1 ⟨⟨k, rfl, hk⟩, hb⟩
  rw [← HV.out] at hk
  have HK := hid hk
  have HB := hid hb
  clear hk hb hs
  go_wp2_with fail
  go_ret
  exact ⟨by rw [← HK.out]; rfl, HB.out⟩
theorem any_all11 (l : List In) : (!l.any fun x => !may11 x) = l.all may11 := by
  induction l with
  | nil => rfl
  | cons x l ih => rw [List.any_cons, List.all_cons, Bool.not_or, ih, Bool.not_not]
theorem pall_any11 (l : List In) (A : Option Addr) (c : Nat) (w : World) (hs : InsR w A l) (fl : l.length ≤ 1000) : Calls Tryz.prog 99 #[.slice A l.length c] w fun e w' => e = .returned (.bool (all11 l)) ∧ Below w.heap.size w w' := by
  have hl1 : (l.length : Int) ≤ 1000 := by omega
  by_cases h : l.length ≤ 32
  · have hI : (l.length : Int) ≤ 32 := by omega
    have HR : Hid (all11 l = !l.any fun x => !may11 x) := by show _ = _; rw [any_all11]; simp [all11, h]
    rw [HR.out]
    obtain ⟨v, hv⟩ : ∃ v, v = l.any fun x => !may11 x := ⟨_, rfl⟩
    have HC : ∀ w0, InsR w0 A l → Calls Tryz.prog 113 #[.slice A l.length c, .func (.func 112) #[] #[]] w0 fun e w' => e = .returned (.bool v) ∧ Below w0.heap.size w0 w' := fun w0 h0 => by rw [hv]; exact pcont_any11 l A c w0 h0 fl
    rw [← hv]
    have HHC := hid HC
    clear HC hv HR
    go_enter Tryz.func99, Tryz.ntmps99
    go_wp2_with fail
    refine (HHC.out _ hs).mono ?_
    rintro e w1 ⟨rfl, hb⟩
    have HB := hid hb
    clear hb hs
    go_wp2_with fail
    go_ret
    exact ⟨rfl, HB.out⟩
  · have hI : ¬ (l.length : Int) ≤ 32 := by omega
    have HR : Hid (all11 l = false) := by show _ = _; simp [all11]; omega
    rw [HR.out]
    clear HR hs
    go_enter Tryz.func99, Tryz.ntmps99
    go_wp2_with fail
    go_ret
    exact ⟨rfl, Below.refl _ _⟩
end Go.Proofs.YtalfbdigjaibkaaGreat
namespace Go.Proofs.YtalfbdigjaibkaaGreat
open Go.RowKit
set_option maxRecDepth 100000
set_option maxHeartbeats 2000000 in
theorem ccheck_any11 (l : List In) (lits temps : Int) (A : Option Addr) (c : Nat) (w : World) (hs : InsR w A l) (fl : l.length ≤ 1000) :
    Calls Tryz.prog 76 #[.slice A l.length c, .int .i64 lits, .int .i64 temps] w fun e w' => e = .returned (.int .i64 (ck11 l lits temps)) ∧ Below w.heap.size w w' := by
  have HS := hid hs
  have hl1 : (l.length : Int) ≤ 1000 := by omega
  clear hs
  by_cases hl0 : l.length = 0
  · have HC : Hid (ck11 l lits temps = 110) := by
      obtain rfl := List.eq_nil_of_length_eq_zero hl0
      exact ck_end11 rfl
    have hl0I : (l.length : Int) = 0 := by omega
    have hl0B : ((l.length : Int) == 0) = true := by rw [hl0I]; rfl
    rw [HC.out]
    go_enter Tryz.func76, Tryz.ntmps76
    go_wp2_with fail
    go_ret
    exact ⟨rfl, Below.refl _ _⟩
  · have hl0I : ¬ (l.length : Int) = 0 := by omega
    have hl0C : ((l.length : Int) == 0) = false := beq_eq_false_iff_ne.2 hl0I
    cases hall : all11 l
    · have HC : Hid (ck11 l lits temps = 110) := ck_all11 hall
      have HALL := hid hall
      rw [HC.out]
      clear hall
      go_enter Tryz.func76, Tryz.ntmps76
      go_wp2_with fail
      refine (pall_any11 l A c _ HS.out fl).mono ?_
      rintro e w1 ⟨rfl, hb⟩
      have HB1 := hid hb
      clear hb
      rw [HALL.out]
      go_wp2_with fail
      go_ret
      exact ⟨rfl, HB1.out⟩
    · have HALL := hid hall
      clear hall
      have hlw : IntKind.i64.wrap ((l.length : Int) - 1) = (l.length : Int) - 1 := IntWalk.i64_in _ ⟨by omega, by omega⟩
      obtain ⟨b, off, rfl, hlt, hc⟩ := HS.out (by omega)
      have hj : l.length - 1 < l.length := by omega
      have ha := (hc _ _ (List.getElem?_eq_getElem hj)).1
      have HE : Hid (end11 l = (decide ((l[l.length - 1]'hj).op = 14) || (decide ((l[l.length - 1]'hj).op = 15) || decide ((l[l.length - 1]'hj).op = 10)))) := end_is11 hj
      obtain ⟨x, hx⟩ : ∃ x, x = l[l.length - 1]'hj := ⟨_, rfl⟩
      rw [← hx] at ha HE
      have HA := hid ha
      obtain ⟨v, hv⟩ : ∃ v, v = (decide (x.op = 14) || (decide (x.op = 15) || decide (x.op = 10))) := ⟨_, rfl⟩
      have HLAST : ∀ w0, Calls Tryz.prog 100 #[.int .i64 x.op] w0 fun e w' => e = .returned (.bool v) ∧ w0 = w' := fun w0 => by rw [hv]; exact plast_any11 x.op w0
      rw [← hv] at HE
      have HHL := hid HLAST
      clear ha hx hc HLAST hv
      go_enter Tryz.func76, Tryz.ntmps76
      go_wp2_with fail
      refine (pall_any11 l _ c _ HS.out fl).mono ?_
      rintro e w1 ⟨rfl, hb⟩
      have HB1 := hid hb
      clear hb
      rw [HALL.out]
      have g0 := cell_later HB1.out HA.out
      have hi0 : 0 ≤ (l.length : Int) - 1 := by omega
      have hi1 : (l.length : Int) - 1 < (l.length : Int) := by omega
      have hi2 : ((l.length : Int) - 1).toNat = l.length - 1 := by omega
      go_wp2_with fail
      refine (HHL.out _).mono ?_
      rintro e w2 ⟨rfl, rfl⟩
      clear g0
      cases v
      · have HC : Hid (ck11 l lits temps = 110) := ck_end11 HE.out
        go_wp2_with fail
        go_ret
        exact ⟨by rw [HC.out]; rfl, HB1.out⟩
      · go_wp2_with fail
        clear hlw hi0 hi1 hi2
        go_loopw [30] (fun i wr => ∃ j : Nat, j ≤ l.length ∧ i = .int .i64 j ∧ Hid ((l.take j).any (bad11 l.length lits temps) = false) ∧ Below w.heap.size w wr) (fun i _ => l.length + 1 - (intOf i).toNat)
        case atStart => exact ⟨0, by omega, rfl, rfl, HB1.out⟩
        case round =>
          rename World => w50
          obtain ⟨j, hjl, rfl, HT, hb⟩ := hrel
          have HB := hid hb
          clear hb
          have hjw : IntKind.i64.wrap ((j : Int) + 1) = (j : Int) + 1 := IntWalk.i64_in _ ⟨by omega, by omega⟩
          have hj0 : (0 : Int) ≤ (j : Int) := by omega
          by_cases hj : j < l.length
          · have hjI : (j : Int) < (l.length : Int) := by omega
            obtain ⟨b', off', hbo, hlt', hc⟩ := HS.out (by omega)
            obtain ⟨rfl, rfl⟩ : b = b' ∧ off = off' := by
              injection hbo with hbo
              injection hbo with h1 h2
              exact ⟨h1, h2⟩
            have ha := hc j _ (List.getElem?_eq_getElem hj)
            have HTK : Hid (l.take (j + 1) = l.take j ++ [l[j]'hj]) := by show _ = _; rw [List.take_succ_eq_append_getElem hj]
            have HMEM : Hid (l[j]'hj ∈ l) := List.getElem_mem hj
            obtain ⟨x, hx⟩ : ∃ x, x = l[j]'hj := ⟨_, rfl⟩
            rw [← hx] at ha HTK HMEM
            have HMAY : Hid (may11 x = true) := all_may11 HALL.out x HMEM.out
            have BAD : Hid (bad11 l.length lits temps x = true → ck11 l lits temps = 110) := ck_bad11 HMEM.out
            have GOOD : Hid (bad11 l.length lits temps x = false → (l.take (j + 1)).any (bad11 l.length lits temps) = false) := fun h => by rw [HTK.out, List.any_append, HT.out]; simp [h]
            have g0 := cell_later HB.out ha.1
            have g1 := cell_later HB.out ha.2
            have hX := Lies.new w50 37 #[.int .i64 x.op, .int .i64 x.a]
            have HB2 := hid (HB.out.trans ((below_alloc w50 (.cells #[.int .i64 x.op, .int .i64 x.a] 37)).mono HB.out.size))
            obtain ⟨x0, x1⟩ := hX.c2
            clear ha hx hc hlt' HTK HMEM hX hbo
            go_wp2_with fail
            refine (pfits_any11 x l.length lits temps _ HMAY.out).mono ?_
            rintro e w3 ⟨rfl, hb⟩
            have HB3 := hid (HB2.out.trans (hb.mono HB2.out.size))
            clear hb x0 x1 g0 g1
            cases hbad : bad11 l.length lits temps x
            · have HN := hid (GOOD.out hbad)
              clear hbad
              go_wp2_with fail
              go_roundw
              case rel => exact ⟨j + 1, by omega, by go_num, HN, HB3.out⟩
              case measure => simp only [intOf]; omega
            · have HC := hid (BAD.out hbad)
              clear hbad
              go_wp2_with fail
              go_ret
              exact ⟨by rw [HC.out]; rfl, HB3.out⟩
          · obtain rfl : j = l.length := by omega
            have HC : Hid (ck11 l lits temps = 0) := ck_ok11 HALL.out (by rw [← HT.out, List.take_length]) HE.out
            go_wp2_with fail
            go_ret
            exact ⟨by rw [HC.out]; rfl, HB.out⟩
end Go.Proofs.YtalfbdigjaibkaaGreat
