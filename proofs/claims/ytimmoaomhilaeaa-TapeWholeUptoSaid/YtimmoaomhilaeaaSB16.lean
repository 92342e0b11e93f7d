/- The document's words on tapes: whether one may be; whether two are the same. -/
import Derived.Test.YtimmoaomhilaeaaSA16
namespace Go.Proofs.Ytimmoaomhilaeaa
open Go.RowKit
set_option maxRecDepth 100000
def rI16 (n : Int) : Int := if smB n then 2 * n + 1 else 0
theorem rint_any16 (n : Int) (w : World) : Calls Try.prog 22 #[.int .i64 n] w fun e w' => e = .returned (.tuple #[.int .i64 (rI16 n), .bool (smB n)]) ∧ w = w' := by
  have F : smB n = true ∧ rI16 n = 2 * n + 1 ∧ -1073741824 ≤ n ∧ n ≤ 1073741823 ∨ smB n = false ∧ rI16 n = 0 ∧ n < -1073741824 ∨ smB n = false ∧ rI16 n = 0 ∧ -1073741824 ≤ n ∧ 1073741823 < n := by
    cases h : smB n
    · have := smB_no.1 h; simp [rI16, h]; omega
    · have := smB_iff.1 h; simp [rI16, h]; omega
  rcases F with ⟨h, e, b1, b2⟩ | ⟨h, e, b1⟩ | ⟨h, e, b1, b2⟩
  all_goals
    rw [h, e]; clear h e
    go_enter Try.func22, Try.ntmps22
    go_wp2
    go_ret2; exact ⟨rfl, rfl⟩
def ckT (t : Tp) : Int := if mayT t = true then 0 else 160
theorem ckT_yes {t : Tp} (h : mayT t = true) : ckT t = 0 := by unfold ckT; rw [if_pos h]
theorem ckT_no {t : Tp} (h : mayT t = false) : ckT t = 160 := by unfold ckT; rw [if_neg (by rw [h]; decide)]
set_option maxHeartbeats 1500000 in
theorem rcheck_any16 (t : Tp) (A B : Option Addr) (c d : Nat) (w : World) (hA : IntsR w A t.log) (hB : IntsR w B t.rest) (nA : A = none → c = 0) (nB : B = none → d = 0) (hl : t.log.length + t.rest.length ≤ 1048576) :
    Calls Try.prog 14 #[.agg #[.slice A t.log.length c, .slice B t.rest.length d]] w fun e w' => e = .returned (.int .i64 (ckT t)) ∧ Below w.heap.size w w' := by
  obtain ⟨w0, hw0⟩ : ∃ w0, w0 = w.alloc (.cells #[.slice A t.log.length c, .slice B t.rest.length d] 24) := ⟨_, rfl⟩
  have HB0 : Hid (Below w.heap.size w w0) := by show Below _ _ _; rw [hw0]; exact below_alloc _ _
  have X0 : Hid (Lies w0 w.heap.size 24 #[.slice A t.log.length c, .slice B t.rest.length d]) := by show Lies _ _ _ _; rw [hw0]; exact Lies.new _ _ _
  have RA0 := hid (hA.below HB0.out)
  have RB0 := hid (hB.below HB0.out)
  have NA := hid nA
  have NB := hid nB
  clear hA hB nA nB
  go_enter Try.func14, Try.ntmps14
  go_upto_region 1 with fail
  rw [← hw0]
  clear hw0
  have x0 := X0.out.cell 0
  have x1 := X0.out.cell 1
  simp only [List.getElem?_toArray, List.getElem?_cons_zero, List.getElem?_cons_succ] at x0 x1
  go_wp2_with fail
  refine (rall_any16 t A B c d _ RA0.out RB0.out NA.out NB.out hl).mono ?_
  rintro e w1 ⟨D, dd, rfl, ho, hb⟩
  clear x0 x1
  have HB1 := hid (then_w HB0.out hb)
  have HI := hid (own_ints ho)
  obtain ⟨L, hL⟩ : ∃ L, L = allT t := ⟨_, rfl⟩
  have HL := hid hL
  have hLn : L.length ≤ 1048576 := by rw [hL, allT_len]; exact hl
  have HM : Hid (mayT t = (L.all smB && decide (L.length ≤ 1000))) := by show _ = _; rw [hL]; rfl
  rw [← hL] at HI
  rw [← hL]
  clear hL ho hb
  go_wp2_with fail
  go_loopw [4, 5, 6] (fun i _ _ wr => ∃ k : Nat, k ≤ L.length ∧ i = .int .i64 k ∧ (L.take k).all smB = true ∧ Below w1.heap.size w1 wr) (fun i _ _ _ => L.length - (intOf i).toNat)
  case atStart => exact ⟨0, Nat.zero_le _, rfl, rfl, Below.refl _ _⟩
  case round =>
    obtain ⟨k, hk, rfl, hall, hbw⟩ := hrel
    have HA := hid hall
    have HW := hid hbw
    clear hall hbw
    by_cases hlt : k < L.length
    · obtain ⟨bs, os, rfl, hbs, hcs⟩ := HI.out (by omega)
      have hcell : wr.cell? ⟨bs, os + k, none⟩ = some (.int .i64 L[k]) := (HW.out.cell (p := ⟨bs, os + k, none⟩) hbs).trans (hcs k _ (List.getElem?_eq_getElem hlt))
      clear hcs
      have HT : Hid ((L.take (k + 1)).all smB = smB L[k]) := by show _ = _; rw [List.take_succ_eq_append_getElem hlt, List.all_append, HA.out]; simp
      have HN : Hid (smB L[k] = false → L.all smB = false) := fun h => by
        rw [← List.take_append_drop (k + 1) L, List.all_append, HT.out, h]; rfl
      cases hs : smB L[k]
      · go_wp2_with (go_at_call 22; refine (rint_any16 _ _).mono ?_; rintro e wx ⟨rfl, rfl⟩; rw [hs])
        go_ret
        refine ⟨?_, HB1.out.trans (HW.out.mono HB1.out.size)⟩
        rw [ckT_no (by rw [HM.out, HN.out hs]; rfl)]; rfl
      · go_wp2_with (go_at_call 22; refine (rint_any16 _ _).mono ?_; rintro e wx ⟨rfl, rfl⟩; rw [hs])
        go_roundw
        case rel => exact ⟨k + 1, by omega, by go_num, by rw [HT.out, hs], HW.out⟩
        case measure => simp [intOf]; omega
    · have hkn : k = L.length := by omega
      have HA2 : Hid (L.all smB = true) := by show _ = _; have := HA.out; rwa [hkn, List.take_length] at this
      by_cases hg : L.length ≤ 1000
      · go_wp2_with fail
        go_ret
        refine ⟨?_, HB1.out.trans (HW.out.mono HB1.out.size)⟩
        rw [ckT_yes (by rw [HM.out, HA2.out, decide_eq_true hg]; rfl)]; rfl
      · go_wp2_with fail
        go_ret
        refine ⟨?_, HB1.out.trans (HW.out.mono HB1.out.size)⟩
        rw [ckT_no (by rw [HM.out, decide_eq_false hg, Bool.and_false])]; rfl
def saT (t u : Tp) : Bool := decide (t.log = u.log) && decide (t.rest = u.rest)
theorem saT_iff {t u : Tp} : saT t u = true ↔ t = u := by
  unfold saT
  rw [Bool.and_eq_true, decide_eq_true_iff, decide_eq_true_iff]
  constructor
  · rintro ⟨h1, h2⟩; cases t; cases u; cases h1; cases h2; rfl
  · rintro rfl; exact ⟨rfl, rfl⟩
set_option maxHeartbeats 1500000 in
theorem rsame_any16 (t u : Tp) (A B : Option Addr) (c d : Nat) (A2 B2 : Option Addr) (c2 d2 : Nat) (w : World) (hA : IntsR w A t.log) (hB : IntsR w B t.rest) (hA2 : IntsR w A2 u.log) (hB2 : IntsR w B2 u.rest) (h1 : t.log.length ≤ 9223372036854775807) (h2 : t.rest.length ≤ 9223372036854775807) :
    Calls Try.prog 12 #[.agg #[.slice A t.log.length c, .slice B t.rest.length d], .agg #[.slice A2 u.log.length c2, .slice B2 u.rest.length d2]] w fun e w' => e = .returned (.bool (saT t u)) ∧ Below w.heap.size w w' := by
  obtain ⟨w0, hw0⟩ : ∃ w0, w0 = (w.alloc (.cells #[.slice A t.log.length c, .slice B t.rest.length d] 24)).alloc (.cells #[.slice A2 u.log.length c2, .slice B2 u.rest.length d2] 24) := ⟨_, rfl⟩
  have HB0 : Hid (Below w.heap.size w w0) := by show Below _ _ _; rw [hw0]; exact below_alloc2 w _ _
  have X0 : Hid (Lies w0 w.heap.size 24 #[.slice A t.log.length c, .slice B t.rest.length d]) := by show Lies _ _ _ _; rw [hw0]; exact (Lies.new w _ _).alloc _
  have Y0 : Hid (Lies w0 (w.heap.size + 1) 24 #[.slice A2 u.log.length c2, .slice B2 u.rest.length d2]) := by
    show Lies _ _ _ _
    rw [hw0]
    have := Lies.new (w.alloc (.cells #[.slice A t.log.length c, .slice B t.rest.length d] 24)) 24 #[.slice A2 u.log.length c2, .slice B2 u.rest.length d2]
    simpa [Hid] using this
  have RA0 := hid (hA.below HB0.out)
  have RB0 := hid (hB.below HB0.out)
  have SA0 := hid (hA2.below HB0.out)
  have SB0 := hid (hB2.below HB0.out)
  clear hA hB hA2 hB2
  go_enter Try.func12, Try.ntmps12
  go_upto_region 1 with fail
  rw [← hw0]
  clear hw0
  have x0 := X0.out.cell 0
  have x1 := X0.out.cell 1
  have y0 := Y0.out.cell 0
  have y1 := Y0.out.cell 1
  simp only [List.getElem?_toArray, List.getElem?_cons_zero, List.getElem?_cons_succ] at x0 x1 y0 y1
  go_wp2_with fail
  refine (rints_any t.log u.log A A2 c c2 _ RA0.out SA0.out h1).mono ?_
  rintro e w1 ⟨rfl, hb⟩
  have X1 := hid (X0.out.later hb)
  have Y1 := hid (Y0.out.later hb)
  have HB1 := hid (then_w HB0.out hb)
  have RB1 := hid (RB0.out.below hb)
  have SB1 := hid (SB0.out.below hb)
  clear x0 x1 y0 y1 hb
  by_cases h : t.log = u.log
  · have x0 := X1.out.cell 0
    have x1 := X1.out.cell 1
    have y0 := Y1.out.cell 0
    have y1 := Y1.out.cell 1
    simp only [List.getElem?_toArray, List.getElem?_cons_zero, List.getElem?_cons_succ] at x0 x1 y0 y1
    rw [decide_eq_true h]
    have hs : Hid (saT t u = decide (t.rest = u.rest)) := by show _ = _; unfold saT; rw [decide_eq_true h]; rfl
    clear h
    go_wp2_with fail
    refine (rints_any t.rest u.rest B B2 d d2 _ RB1.out SB1.out h2).mono ?_
    rintro e w2 ⟨rfl, hb⟩
    have HB2 := hid (then_w HB1.out hb)
    clear x0 x1 y0 y1 hb
    go_wp2_with fail
    go_ret
    exact ⟨by rw [hs.out]; rfl, HB2.out⟩
  · rw [decide_eq_false h]
    have hs : Hid (saT t u = false) := by show _ = _; unfold saT; rw [decide_eq_false h]; rfl
    clear h
    go_wp2_with fail
    go_ret
    exact ⟨by rw [hs.out]; rfl, HB1.out⟩
end Go.Proofs.Ytimmoaomhilaeaa
