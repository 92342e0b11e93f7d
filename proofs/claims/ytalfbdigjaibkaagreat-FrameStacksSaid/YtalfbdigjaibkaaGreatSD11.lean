/- The document's words on instructions: which may be, all of a list, whether two lists are the same. -/
import Derived.Test.YtalfbdigjaibkaaGreatSC11
namespace Go.Proofs.YtalfbdigjaibkaaGreat
open Go.RowKit
set_option maxRecDepth 100000
theorem below_drawn11 (w : World) (n : Nat) : Below w.heap.size w (w.drewN n) := ⟨rfl, rfl, rfl, Nat.le_refl _, fun _ _ => rfl⟩
set_option maxHeartbeats 1000000 in
theorem may_any11 (x : In) (w : World) : Calls Tryz.prog 102 #[.agg #[.int .i64 x.op, .int .i64 x.a]] w fun e w' => e = .returned (.bool (may11 x)) ∧ Below w.heap.size w w' := by
  obtain ⟨op, a⟩ := x
  show Calls Tryz.prog 102 #[.agg #[.int .i64 op, .int .i64 a]] w _
  have HB := hid (below_alloc w (.cells #[.int .i64 op, .int .i64 a] 37))
  have hX := Lies.new w 37 #[.int .i64 op, .int .i64 a]
  obtain ⟨x0, x1⟩ := hX.c2
  have HMAY : Hid (may11 ⟨op, a⟩ = (decide (0 ≤ op) && (decide (op ≤ 18) && (decide (0 ≤ a) && (decide (a ≤ 255) && (decide (a = 0) || !no11 op)))))) := rfl
  clear hX
  by_cases h1 : 0 ≤ op
  · by_cases h2 : op ≤ 18
    · by_cases h3 : 0 ≤ a
      · by_cases h4 : a ≤ 255
        · by_cases h0 : a = 0
          · subst h0
            rw [HMAY.out, decide_eq_true h1, decide_eq_true h2, decide_eq_true h3, decide_eq_true h4]
            clear HMAY
            go_enter Tryz.func102, Tryz.ntmps102
            go_wp2_with fail
            go_ret
            exact ⟨rfl, HB.out⟩
          · have h0B : (a == 0) = false := beq_eq_false_iff_ne.2 h0
            rw [HMAY.out, decide_eq_true h1, decide_eq_true h2, decide_eq_true h3, decide_eq_true h4, decide_eq_false h0]
            clear HMAY
            obtain ⟨b, hb⟩ : ∃ b, b = no11 op := ⟨_, rfl⟩
            have HBN := hid hb
            clear hb
            go_enter Tryz.func102, Tryz.ntmps102
            go_wp2_with fail
            refine (none_any11 op _).mono ?_
            rintro e w1 ⟨rfl, rfl⟩
            rw [← HBN.out]
            go_wp2_with fail
            go_ret
            exact ⟨by rw [← HBN.out]; cases b <;> rfl, HB.out⟩
        · rw [HMAY.out, decide_eq_true h1, decide_eq_true h2, decide_eq_true h3, decide_eq_false h4]
          clear HMAY
          go_enter Tryz.func102, Tryz.ntmps102
          go_wp2_with fail
          go_ret
          exact ⟨rfl, HB.out⟩
      · rw [HMAY.out, decide_eq_true h1, decide_eq_true h2, decide_eq_false h3]
        clear HMAY
        go_enter Tryz.func102, Tryz.ntmps102
        go_wp2_with fail
        go_ret
        exact ⟨rfl, HB.out⟩
    · rw [HMAY.out, decide_eq_true h1, decide_eq_false h2]
      clear HMAY
      go_enter Tryz.func102, Tryz.ntmps102
      go_wp2_with fail
      go_ret
      exact ⟨rfl, HB.out⟩
  · rw [HMAY.out, decide_eq_false h1]
    clear HMAY
    go_enter Tryz.func102, Tryz.ntmps102
    go_wp2_with fail
    go_ret
    exact ⟨rfl, HB.out⟩
set_option maxHeartbeats 1000000 in
theorem all_any11 (l : List In) (A : Option Addr) (c : Nat) (w : World) (hs : InsR w A l) (fl : l.length ≤ 1000) : Calls Tryz.prog 81 #[.slice A l.length c] w fun e w' => e = .returned (.bool (all11 l)) ∧ Below w.heap.size w w' := by
  have HS := hid hs
  have hl1 : (l.length : Int) ≤ 1000 := by omega
  clear hs
  go_enter Tryz.func81, Tryz.ntmps81
  go_wp2_with fail
  go_loopw [3] (fun i wr => ∃ j : Nat, j ≤ l.length ∧ i = .int .i64 j ∧ Hid ((l.take j).all may11 = true) ∧ Below w.heap.size w wr) (fun i _ => l.length + 1 - (intOf i).toNat)
  case atStart => exact ⟨0, by omega, rfl, rfl, Below.refl _ _⟩
  case round =>
    rename World => w50
    obtain ⟨j, hjl, rfl, HT, hb⟩ := hrel
    have HB := hid hb
    clear hb
    have hjw : IntKind.i64.wrap ((j : Int) + 1) = (j : Int) + 1 := IntWalk.i64_in _ ⟨by omega, by omega⟩
    have hj0 : (0 : Int) ≤ (j : Int) := by omega
    by_cases hj : j < l.length
    · have hjI : (j : Int) < (l.length : Int) := by omega
      obtain ⟨b, off, rfl, hlt, hc⟩ := HS.out (by omega)
      have ha := hc j _ (List.getElem?_eq_getElem hj)
      have HTK : Hid (l.take (j + 1) = l.take j ++ [l[j]'hj]) := by show _ = _; rw [List.take_succ_eq_append_getElem hj]
      have HMEM : Hid (l[j]'hj ∈ l) := List.getElem_mem hj
      obtain ⟨x, hx⟩ : ∃ x, x = l[j]'hj := ⟨_, rfl⟩
      rw [← hx] at ha HTK HMEM
      have g0 := cell_later HB.out ha.1
      have g1 := cell_later HB.out ha.2
      clear ha hx hc hlt
      go_wp2_with fail
      refine (may_any11 x _).mono ?_
      rintro e w51 ⟨rfl, hb⟩
      have HB1 := hid (then_w HB.out hb)
      clear hb g0 g1
      cases hm : may11 x
      · have HA : Hid (all11 l = false) := by
          show _ = _
          unfold all11
          rw [Bool.and_eq_false_iff]
          left
          rw [List.all_eq_false]
          exact ⟨x, HMEM.out, by rw [hm]; decide⟩
        clear hm
        go_wp2_with fail
        go_ret
        exact ⟨by rw [HA.out]; rfl, HB1.out⟩
      · have HN : Hid ((l.take (j + 1)).all may11 = true) := by
          show _ = _
          rw [HTK.out, List.all_append, HT.out]; simp [hm]
        clear hm
        go_wp2_with fail
        go_roundw
        case rel => exact ⟨j + 1, by omega, by go_num, HN, HB1.out⟩
        case measure => simp only [intOf]; omega
    · obtain rfl : j = l.length := by omega
      have hjI : ¬ (l.length : Int) < (l.length : Int) := by omega
      have HA : Hid (all11 l = decide (l.length ≤ 32)) := by
        show _ = _
        have := HT.out
        rw [List.take_length] at this
        unfold all11
        rw [this]; rfl
      go_wp2_with fail
      go_ret
      exact ⟨by rw [HA.out]; simp; omega, HB.out⟩
set_option maxHeartbeats 1000000 in
theorem same_any11 (l m : List In) (A B : Option Addr) (c d : Nat) (w : World) (hs : InsR w A l) (ht : InsR w B m) (fl : l.length ≤ 1000) (fm : m.length ≤ 1000) :
    Calls Tryz.prog 46 #[.slice A l.length c, .slice B m.length d] w fun e w' => e = .returned (.bool (decide (l = m))) ∧ Below w.heap.size w w' := by
  have HS := hid hs
  have HT := hid ht
  have hl1 : (l.length : Int) ≤ 1000 := by omega
  have hm1 : (m.length : Int) ≤ 1000 := by omega
  clear hs ht
  by_cases hlm : l.length = m.length
  · have HLM := hid hlm
    have hlmI : (l.length : Int) = (m.length : Int) := by omega
    obtain ⟨n, hn⟩ : ∃ n, n = l.length := ⟨_, rfl⟩
    have hnm : n = m.length := by omega
    rw [← hn, ← hnm]
    have HN1 := hid hn
    have HN2 := hid hnm
    have hn1 : (n : Int) ≤ 1000 := by omega
    clear hlm hlmI hn hnm fl fm hl1 hm1
    go_enter Tryz.func46, Tryz.ntmps46
    go_wp2_with fail
    go_loopw [5] (fun i wr => ∃ j : Nat, j ≤ n ∧ i = .int .i64 j ∧ Hid (l.take j = m.take j) ∧ Below w.heap.size w wr) (fun i _ => n + 1 - (intOf i).toNat)
    case atStart => exact ⟨0, by omega, rfl, rfl, Below.refl _ _⟩
    case round =>
      rename World => w50
      obtain ⟨j, hjl, rfl, HTJ, hb⟩ := hrel
      have HB := hid hb
      clear hb
      have hjw : IntKind.i64.wrap ((j : Int) + 1) = (j : Int) + 1 := IntWalk.i64_in _ ⟨by omega, by omega⟩
      have hj0 : (0 : Int) ≤ (j : Int) := by omega
      by_cases hj : j < n
      · have hjI : (j : Int) < (n : Int) := by omega
        have hj1 : j < l.length := by have := HN1.out; omega
        have hj2 : j < m.length := by have := HN2.out; omega
        obtain ⟨b, off, rfl, hlt, hc⟩ := HS.out (by omega)
        obtain ⟨b2, off2, rfl, hlt2, hc2⟩ := HT.out (by omega)
        have ha := hc j _ (List.getElem?_eq_getElem hj1)
        have ha2 := hc2 j _ (List.getElem?_eq_getElem hj2)
        have HTK : Hid (l.take (j + 1) = l.take j ++ [l[j]'hj1]) := by show _ = _; rw [List.take_succ_eq_append_getElem hj1]
        have HTK2 : Hid (m.take (j + 1) = m.take j ++ [m[j]'hj2]) := by show _ = _; rw [List.take_succ_eq_append_getElem hj2]
        have HNE : Hid (l[j]'hj1 ≠ m[j]'hj2 → l ≠ m) := fun h e => h (by subst e; rfl)
        obtain ⟨x, hx⟩ : ∃ x, x = l[j]'hj1 := ⟨_, rfl⟩
        obtain ⟨y, hy⟩ : ∃ y, y = m[j]'hj2 := ⟨_, rfl⟩
        rw [← hx] at ha HTK HNE
        rw [← hy] at ha2 HTK2 HNE
        have g0 := cell_later HB.out ha.1
        have g1 := cell_later HB.out ha.2
        have k0 := cell_later HB.out ha2.1
        have k1 := cell_later HB.out ha2.2
        clear ha hx hc hlt ha2 hy hc2 hlt2 hj1 hj2
        obtain ⟨xo, xa⟩ := x
        obtain ⟨yo, ya⟩ := y
        simp only at g0 g1 k0 k1
        by_cases e1 : xo = yo
        · subst e1
          by_cases e2 : xa = ya
          · subst e2
            have HN : Hid (l.take (j + 1) = m.take (j + 1)) := by show _ = _; rw [HTK.out, HTK2.out, HTJ.out]
            go_upto_region 6 with fail
            go_quiet (fail)
            clear g0 g1 k0 k1
            go_wp2_with fail
            go_roundw
            case rel => exact ⟨j + 1, by omega, by go_num, HN, then_w HB.out (below_drawn11 _ _)⟩
            case measure => simp only [intOf]; omega
          · have e2B : (xa == ya) = false := beq_eq_false_iff_ne.2 e2
            have HF : Hid (decide (l = m) = false) := decide_eq_false (HNE.out (by intro e; injection e with _ e; exact e2 e))
            go_upto_region 6 with fail
            go_quiet (fail)
            clear g0 g1 k0 k1
            go_wp2_with fail
            go_ret
            exact ⟨by rw [HF.out]; rfl, then_w HB.out (below_drawn11 _ _)⟩
        · have e1B : (xo == yo) = false := beq_eq_false_iff_ne.2 e1
          have HF : Hid (decide (l = m) = false) := decide_eq_false (HNE.out (by intro e; injection e with e _; exact e1 e))
          go_upto_region 6 with fail
          go_quiet (fail)
          clear g0 g1 k0 k1
          go_wp2_with fail
          go_ret
          exact ⟨by rw [HF.out]; rfl, then_w HB.out (below_drawn11 _ _)⟩
      · have HF : Hid (decide (l = m) = true) := by
          refine decide_eq_true ?_
          have h1 := HTJ.out
          have h2 := HN1.out
          have h3 := HN2.out
          rw [List.take_of_length_le (by omega), List.take_of_length_le (by omega)] at h1
          exact h1
        have hjI : ¬ (j : Int) < (n : Int) := by omega
        go_wp2_with fail
        go_ret
        exact ⟨by rw [HF.out]; rfl, HB.out⟩
  · have HF : Hid (decide (l = m) = false) := decide_eq_false (fun e => hlm (by rw [e]))
    have hlmI : ¬ (l.length : Int) = (m.length : Int) := by omega
    have hlmB : ((l.length : Int) == (m.length : Int)) = false := beq_eq_false_iff_ne.2 hlmI
    have hlmB2 : (l.length == m.length) = false := beq_eq_false_iff_ne.2 hlm
    go_enter Tryz.func46, Tryz.ntmps46
    go_wp2_with fail
    go_ret
    exact ⟨by rw [HF.out]; rfl, Below.refl _ _⟩
end Go.Proofs.YtalfbdigjaibkaaGreat
