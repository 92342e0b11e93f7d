/- The program's All, Check and isPlace. -/
import Derived.Test.YtimmoaomhilaeaaTB16
namespace Go.Proofs.Ytimmoaomhilaeaa
open Go.RowKit
set_option maxRecDepth 100000
set_option maxHeartbeats 1000000 in
theorem ptall_any16 (t : Tp) (A B : Option Addr) (c d : Nat) (w : World) (hA : IntsR w A t.log) (hB : IntsR w B t.rest) (nA : A = none → c = 0) (nB : B = none → d = 0) (hl : t.log.length + t.rest.length ≤ 1000000) :
    Calls Try.prog 16 #[.agg #[.slice A t.log.length c, .slice B t.rest.length d]] w (IntsOwn16 w (allT t)) := by
  obtain ⟨w0, hw0⟩ : ∃ w0, w0 = w.alloc (.cells #[.slice A t.log.length c, .slice B t.rest.length d] 24) := ⟨_, rfl⟩
  have HB0 : Hid (Below w.heap.size w w0) := by show Below _ _ _; rw [hw0]; exact below_alloc _ _
  have X0 : Hid (Lies w0 w.heap.size 24 #[.slice A t.log.length c, .slice B t.rest.length d]) := by show Lies _ _ _ _; rw [hw0]; exact Lies.new _ _ _
  have RA0 := hid (hA.below HB0.out)
  have RB0 := hid (hB.below HB0.out)
  have NA := hid nA
  have NB := hid nB
  clear hA hB nA nB
  go_enter Try.func16, Try.ntmps16
  go_upto_region 1 with fail
  rw [← hw0]
  clear hw0
  have x0 := X0.out.cell 0
  have x1 := X0.out.cell 1
  simp only [List.getElem?_toArray, List.getElem?_cons_zero, List.getElem?_cons_succ] at x0 x1
  go_wp2_with fail
  refine (concat_any16 t.log t.rest A B c d w0.heap.size _ (Lies.new _ _ _) (RA0.out.below (below_alloc _ _)) (RB0.out.below (below_alloc _ _)) NA.out NB.out hl).mono ?_
  rintro e w1 ⟨S, cc, rfl, ho, hb⟩
  have h0 : Below w.heap.size w (w0.alloc (.cells #[.slice A t.log.length c, .slice B t.rest.length d] 22)) := HB0.out.trans ((below_alloc _ _).mono HB0.out.size)
  have HO : Hid (w1.ownsRow w.heap.size 3 1 (.slice S (t.log ++ t.rest).length cc) (t.log ++ t.rest).length ((t.log ++ t.rest).map (Value.int .i64))) := own_base16 ho h0.size
  have HB1 := hid (then_w h0 hb)
  clear ho hb h0 x0 x1
  go_wp2_with fail
  go_ret
  exact ⟨S, cc, by rw [allT_len]; rfl, HO.out, HB1.out⟩
theorem mayT_eq16 (t : Tp) : mayT t = (t.log.all smB && t.rest.all smB && decide (t.log.length + t.rest.length ≤ 1000)) := by
  unfold mayT smT
  rw [allT_len]; unfold allT; rw [List.all_append]
set_option maxHeartbeats 1000000 in
theorem pcheck_any16 (t : Tp) (A B : Option Addr) (c d : Nat) (w : World) (hA : IntsR w A t.log) (hB : IntsR w B t.rest) (nA : A = none → c = 0) (nB : B = none → d = 0) (hl : t.log.length + t.rest.length ≤ 1048576) :
    Calls Try.prog 13 #[.agg #[.slice A t.log.length c, .slice B t.rest.length d]] w fun e w' => e = .returned (.int .i64 (ckT t)) ∧ Below w.heap.size w w' := by
  obtain ⟨w0, hw0⟩ : ∃ w0, w0 = w.alloc (.cells #[.slice A t.log.length c, .slice B t.rest.length d] 24) := ⟨_, rfl⟩
  have HB0 : Hid (Below w.heap.size w w0) := by show Below _ _ _; rw [hw0]; exact below_alloc _ _
  have X0 : Hid (Lies w0 w.heap.size 24 #[.slice A t.log.length c, .slice B t.rest.length d]) := by show Lies _ _ _ _; rw [hw0]; exact Lies.new _ _ _
  have RA0 := hid (hA.below HB0.out)
  have RB0 := hid (hB.below HB0.out)
  have NA := hid nA
  have NB := hid nB
  clear hA hB nA nB
  go_enter Try.func13, Try.ntmps13
  go_upto_region 1 with fail
  rw [← hw0]
  clear hw0
  have x0 := X0.out.cell 0
  have x1 := X0.out.cell 1
  simp only [List.getElem?_toArray, List.getElem?_cons_zero, List.getElem?_cons_succ] at x0 x1
  have hw1 : IntKind.i64.wrap ((t.log.length : Int) + (t.rest.length : Int)) = (t.log.length : Int) + (t.rest.length : Int) := IntWalk.i64_in _ (by omega)
  have H1 := hid (psm_any16 A t.log c w0 RA0.out (by omega))
  have H2 := hid (psm_any16 B t.rest d w0 RB0.out (by omega))
  have HM := hid (mayT_eq16 t)
  by_cases hg : t.log.length + t.rest.length ≤ 1000
  · have hg2 : ¬ (1000 : Int) < (t.log.length : Int) + (t.rest.length : Int) := by omega
    have HG := hid hg
    clear hg hl
    cases h1 : t.log.all smB
    · have HE : Hid (ckT t = 160) := ckT_no (by rw [HM.out, h1]; rfl)
      rw [h1] at H1
      clear h1
      go_wp2_with (first | (go_at_call 21; refine H1.out.mono ?_; rintro e w' ⟨rfl, rfl⟩))
      go_ret
      exact ⟨by rw [HE.out]; rfl, HB0.out⟩
    · rw [h1] at H1
      cases h2 : t.rest.all smB
      · have HE : Hid (ckT t = 160) := ckT_no (by rw [HM.out, h1, h2]; rfl)
        rw [h2] at H2
        clear h1 h2
        go_wp2_with (first | (go_at_call 21; refine H1.out.mono ?_; rintro e w' ⟨rfl, rfl⟩) | (go_at_call 21; refine H2.out.mono ?_; rintro e w' ⟨rfl, rfl⟩))
        go_ret
        exact ⟨by rw [HE.out]; rfl, HB0.out⟩
      · have HE : Hid (ckT t = 0) := ckT_yes (by rw [HM.out, h1, h2, decide_eq_true HG.out]; rfl)
        rw [h2] at H2
        clear h1 h2
        go_wp2_with (first | (go_at_call 21; refine H1.out.mono ?_; rintro e w' ⟨rfl, rfl⟩) | (go_at_call 21; refine H2.out.mono ?_; rintro e w' ⟨rfl, rfl⟩))
        go_ret
        exact ⟨by rw [HE.out]; rfl, HB0.out⟩
  · have hg2 : (1000 : Int) < (t.log.length : Int) + (t.rest.length : Int) := by omega
    have HE : Hid (ckT t = 160) := ckT_no (by rw [HM.out, decide_eq_false hg, Bool.and_false])
    clear hg hl
    go_wp2_with fail
    go_ret
    exact ⟨by rw [HE.out]; rfl, HB0.out⟩
set_option maxHeartbeats 1000000 in
theorem pplace_any16 (t : Tp) (A B : Option Addr) (c d : Nat) (w : World) (hA : IntsR w A t.log) (hB : IntsR w B t.rest) (nA : A = none → c = 0) (nB : B = none → d = 0) (k : Int) (hl : t.log.length + t.rest.length ≤ 1048576) :
    Calls Try.prog 18 #[.agg #[.slice A t.log.length c, .slice B t.rest.length d], .int .i64 k] w fun e w' => e = .returned (.bool (dvB t k)) ∧ Below w.heap.size w w' := by
  obtain ⟨w0, hw0⟩ : ∃ w0, w0 = w.alloc (.cells #[.slice A t.log.length c, .slice B t.rest.length d] 24) := ⟨_, rfl⟩
  have HB0 : Hid (Below w.heap.size w w0) := by show Below _ _ _; rw [hw0]; exact below_alloc _ _
  have X0 : Hid (Lies w0 w.heap.size 24 #[.slice A t.log.length c, .slice B t.rest.length d]) := by show Lies _ _ _ _; rw [hw0]; exact Lies.new _ _ _
  have RA0 := hid (hA.below HB0.out)
  have RB0 := hid (hB.below HB0.out)
  have NA := hid nA
  have NB := hid nB
  clear hA hB nA nB
  go_enter Try.func18, Try.ntmps18
  go_upto_region 1 with fail
  rw [← hw0]
  clear hw0
  have x0 := X0.out.cell 0
  have x1 := X0.out.cell 1
  simp only [List.getElem?_toArray, List.getElem?_cons_zero, List.getElem?_cons_succ] at x0 x1
  go_wp2_with fail
  refine (pcheck_any16 t A B c d _ RA0.out RB0.out NA.out NB.out hl).mono ?_
  rintro e w1 ⟨rfl, hb⟩
  have HB1 := hid (then_w HB0.out hb)
  have X1 := hid (X0.out.later hb)
  clear x0 x1 hb
  have x0 := X1.out.cell 0
  have x1 := X1.out.cell 1
  simp only [List.getElem?_toArray, List.getElem?_cons_zero, List.getElem?_cons_succ] at x0 x1
  by_cases hm : mayT t = true
  · rw [ckT_yes hm]
    by_cases h0 : 0 ≤ k
    · by_cases h1 : k ≤ (t.log.length : Int)
      · have HE : Hid (dvB t k = true) := by show _ = _; unfold dvB; rw [hm, decide_eq_true h0, decide_eq_true h1]; rfl
        clear hm
        go_wp2_with fail
        go_ret
        exact ⟨by rw [HE.out]; simp, HB1.out⟩
      · have HE : Hid (dvB t k = false) := by show _ = _; unfold dvB; rw [decide_eq_false h1, Bool.and_false]
        clear hm
        go_wp2_with fail
        go_ret
        exact ⟨by rw [HE.out]; simp [h1], HB1.out⟩
    · have HE : Hid (dvB t k = false) := by show _ = _; unfold dvB; rw [decide_eq_false h0, Bool.and_false]; rfl
      clear hm
      go_wp2_with fail
      go_ret
      exact ⟨by rw [HE.out]; rfl, HB1.out⟩
  · have hm2 : mayT t = false := by simpa using hm
    rw [ckT_no hm2]
    have HE : Hid (dvB t k = false) := by show _ = _; unfold dvB; rw [hm2]; rfl
    clear hm hm2
    go_wp2_with fail
    go_ret
    exact ⟨by rw [HE.out]; rfl, HB1.out⟩
end Go.Proofs.Ytimmoaomhilaeaa
