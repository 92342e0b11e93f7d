/- canon.Same walked. -/
import Derived.Test.YtjpibkcbgogfoaaSC
import Derived.Test.YtjpibkcbgogfoaaCO
namespace Go.Proofs.Ytjpibkcbgogfoaa
open Go.RowKit
set_option maxRecDepth 100000
/-- are they the same but for numbers? -/
noncomputable def saB (a : Hp) (p : List Int) (b : Hp) (q : List Int) : Bool := @decide (SameP a p b q) (Classical.propDecidable _)
theorem saB_iff {a b : Hp} {p q : List Int} : saB a p b q = true ↔ SameP a p b q := by unfold saB; exact @decide_eq_true_iff _ (Classical.propDecidable _)
theorem saB_yes {a b : Hp} {p q : List Int} (h : SameP a p b q) : saB a p b q = true := saB_iff.2 h
theorem saB_no {a b : Hp} {p q : List Int} (h : ¬ SameP a p b q) : saB a p b q = false := by
  cases g : saB a p b q
  · rfl
  · exact absurd (saB_iff.1 g) h
theorem cn_fit (h : Hp) (rs : List Int) : (cnH h rs).objs.length ≤ 256 ∧ ∀ o ∈ (cnH h rs).objs, o.slots.length ≤ 64 := by
  by_cases e : liE h rs = 0
  · have hm := cn_may e
    exact ⟨may_len hm, fun o ho => (kind_len (ob_kind (may_all hm o ho))).1⟩
  · rw [cnH_no e]
    exact ⟨Nat.zero_le _, fun o ho => by simp [zeroH] at ho⟩
theorem take_objs {os ps : List Ob} {k : Nat} (hk : k < os.length) (hl : os.length = ps.length) (h : os.take k = ps.take k) (e : os[k] = ps[k]'(by omega)) : os.take (k + 1) = ps.take (k + 1) := by
  rw [List.take_succ_eq_append_getElem hk, List.take_succ_eq_append_getElem (by omega), h, e]
set_option maxHeartbeats 1500000 in
theorem csame_any (a b : Hp) (p q : List Int) (A B P Q : Option Addr) (c d dp dq : Nat) (w : World) (hsa : ObsR w A a.objs) (fa : a.Fit) (hp : IntsR w P p) (hpl : p.length ≤ 100000) (hsb : ObsR w B b.objs) (fb : b.Fit) (hq : IntsR w Q q) (hql : q.length ≤ 100000) :
    Calls Try.prog 41 #[.agg #[.slice A a.objs.length c, .int .i64 a.cap, .int .i64 a.last], .slice P p.length dp, .agg #[.slice B b.objs.length d, .int .i64 b.cap, .int .i64 b.last], .slice Q q.length dq] w fun e w' => e = .returned (.bool (saB a p b q)) ∧ Below w.heap.size w w' := by
  have hmf : ∀ (fn : Fn) (first cap : Array Value) (w : World), (Instr.makeFunc fn first cap).run Try.prog w = .ok (.func fn first cap) w := fun _ _ _ _ => rfl
  have HB0 := hid (below_alloc2 w (.cells #[Value.slice A a.objs.length c, Value.int .i64 a.cap, Value.int .i64 a.last] 24) (.cells #[Value.slice B b.objs.length d, Value.int .i64 b.cap, Value.int .i64 b.last] 24))
  have X0 := hid ((Lies.new w 24 #[Value.slice A a.objs.length c, Value.int .i64 a.cap, Value.int .i64 a.last]).alloc (.cells #[Value.slice B b.objs.length d, Value.int .i64 b.cap, Value.int .i64 b.last] 24))
  have Y0 : Hid (Lies ((w.alloc (.cells #[Value.slice A a.objs.length c, Value.int .i64 a.cap, Value.int .i64 a.last] 24)).alloc (.cells #[Value.slice B b.objs.length d, Value.int .i64 b.cap, Value.int .i64 b.last] 24)) (w.heap.size + 1) 24 #[Value.slice B b.objs.length d, Value.int .i64 b.cap, Value.int .i64 b.last]) := by
    have := Lies.new (w.alloc (.cells #[Value.slice A a.objs.length c, Value.int .i64 a.cap, Value.int .i64 a.last] 24)) 24 #[Value.slice B b.objs.length d, Value.int .i64 b.cap, Value.int .i64 b.last]
    simpa [Hid] using this
  have HSA := hid hsa
  have HFA0 := hid fa
  have HP := hid hp
  have HSB0 := hid hsb
  have HFB0 := hid fb
  have HQ := hid hq
  clear hsa fa hp hsb fb hq
  obtain ⟨sb, hsb⟩ : ∃ sb, sb = saB a p b q := ⟨_, rfl⟩
  rw [← hsb]
  have HSB := hid hsb
  clear hsb
  obtain ⟨hgl, hgs⟩ := cn_fit a p
  obtain ⟨hkl, hks⟩ := cn_fit b q
  obtain ⟨g, hg⟩ : ∃ g, g = cnH a p := ⟨_, rfl⟩
  obtain ⟨l, hl⟩ : ∃ l, l = cnL a p := ⟨_, rfl⟩
  obtain ⟨ea, hea⟩ : ∃ ea, ea = liE a p := ⟨_, rfl⟩
  obtain ⟨k, hk⟩ : ∃ k, k = cnH b q := ⟨_, rfl⟩
  obtain ⟨m, hm⟩ : ∃ m, m = cnL b q := ⟨_, rfl⟩
  obtain ⟨eb, heb⟩ : ∃ eb, eb = liE b q := ⟨_, rfl⟩
  rw [← hg] at hgl hgs
  rw [← hk] at hkl hks
  have HG := hid hg
  have HL := hid hl
  have HEA := hid hea
  have HK := hid hk
  have HMM := hid hm
  have HEB := hid heb
  have HGS := hid hgs
  have HLLEN : Hid (l.length ≤ 100000) := by show _ ≤ _; rw [hl]; unfold cnL; split <;> simp <;> omega
  clear hg hl hea hk hm heb hgs hks
  go_enter Try.func41, Try.ntmps41
  go_wp2_with fail
  refine (of_any a p A P c dp _ (HSA.out.below HB0.out) HFA0.out (HP.out.below HB0.out) hpl).mono ?_
  rintro e w1 ⟨A1, c1, R1, d1, rfl, ho1, hi1, hb1⟩
  rw [← HG.out, ← HL.out, ← HEA.out]
  rw [← HG.out] at ho1
  rw [← HL.out] at hi1
  have HB1 := hid (HB0.out.trans (hb1.mono HB0.out.size))
  have Y1 := hid (Y0.out.later hb1)
  have HAL1 := hid (below_alloc w1 (.cells #[Value.slice A1 g.objs.length c1, Value.int .i64 g.cap, Value.int .i64 g.last] 24))
  have HB2 := hid (HB1.out.trans (HAL1.out.mono HB1.out.size))
  have G1 := hid (Lies.new w1 24 #[Value.slice A1 g.objs.length c1, Value.int .i64 g.cap, Value.int .i64 g.last])
  have Y2 := hid (Y1.out.later HAL1.out)
  have HO1 := hid (ho1.below HAL1.out)
  have HI1 := hid (hi1.below HAL1.out)
  clear hb1 ho1 hi1 X0 Y0 HB0 HB1 Y1
  have y0 := Y2.out.cell 0
  have y1 := Y2.out.cell 1
  have y2 := Y2.out.cell 2
  simp only [List.getElem?_toArray, List.getElem?_cons_zero, List.getElem?_cons_succ] at y0 y1 y2
  go_wp2_with fail
  refine (of_any b q B Q d dq _ (HSB0.out.below HB2.out) HFB0.out (HQ.out.below HB2.out) hql).mono ?_
  rintro e w3 ⟨A3, c3, R3, d3, rfl, ho3, hi3, hb3⟩
  rw [← HK.out, ← HMM.out, ← HEB.out]
  rw [← HK.out] at ho3
  rw [← HMM.out] at hi3
  have HAL3 := hid (below_alloc w3 (.cells #[Value.slice A3 k.objs.length c3, Value.int .i64 k.cap, Value.int .i64 k.last] 24))
  have hb4 := then_b hb3 HAL3.out
  have HB5 := hid (HB2.out.trans (hb4.mono HB2.out.size))
  have G5 := hid (G1.out.later hb4)
  have K5 := hid (Lies.new w3 24 #[Value.slice A3 k.objs.length c3, Value.int .i64 k.cap, Value.int .i64 k.last])
  have HO5 := hid (HO1.out.below hb4)
  have HI5 := hid (HI1.out.below hb4)
  have HOK := hid (ho3.below HAL3.out)
  have HIK := hid (hi3.below HAL3.out)
  have g0 := G5.out.cell 0
  have k0 := K5.out.cell 0
  simp only [List.getElem?_toArray, List.getElem?_cons_zero] at g0 k0
  clear hb3 hb4 ho3 hi3 y0 y1 y2 HB2 G1 Y2 HO1 HI1
  by_cases ha : ea = 0
  · have ta : (ea != 0) = false := by simp [ha]
    by_cases hb : eb = 0
    · have tb : (eb != 0) = false := by simp [hb]
      have HHA : Hid (liE a p = 0) := by show _ = _; rw [← HEA.out]; exact ha
      have HHB : Hid (liE b q = 0) := by show _ = _; rw [← HEB.out]; exact hb
      clear ha hb
      by_cases hlm : l = m
      · have HLM := hid hlm
        clear hlm
        by_cases hgk : g.objs.length = k.objs.length
        · have tc : ((g.objs.length : Int) != (k.objs.length : Int)) = false := by simp [hgk]
          have HGK := hid hgk
          clear hgk
          go_wp2_with fail
          refine (equal_any l m R1 R3 d1 d3 _ HI5.out HIK.out (by have := HLLEN.out; omega)).mono ?_
          rintro e w6 ⟨rfl, hb6⟩
          rw [decide_eq_true HLM.out]
          have HB6 := hid (HB5.out.trans (hb6.mono HB5.out.size))
          have G6 := hid (G5.out.later hb6)
          have K6 := hid (K5.out.later hb6)
          have HO6 := hid (HO5.out.below hb6)
          have HOK6 := hid (HOK.out.below hb6)
          clear hb6 g0 k0
          have g0 := G6.out.cell 0
          have k0 := K6.out.cell 0
          simp only [List.getElem?_toArray, List.getElem?_cons_zero] at g0 k0
          go_wp2_with fail
          go_loopw [56] (fun i wr => ∃ j : Nat, j ≤ g.objs.length ∧ i = .int .i64 j ∧ g.objs.take j = k.objs.take j ∧ Below w6.heap.size w6 wr) (fun i _ => g.objs.length - (intOf i).toNat)
          case atStart => exact ⟨0, Nat.zero_le _, rfl, rfl, Below.refl _ _⟩
          case round =>
            obtain ⟨j, hj, rfl, htk, hbw⟩ := hrel
            have HW := hid hbw
            have HTK := hid htk
            clear htk hbw
            by_cases hlt : j < g.objs.length
            · have hlt2 : j < k.objs.length := by have := HGK.out; omega
              have h1 := List.getElem?_eq_getElem hlt
              have h2 := List.getElem?_eq_getElem hlt2
              have hsl := HGS.out _ (List.getElem_mem hlt)
              have G7 := hid (G6.out.later HW.out)
              have K7 := hid (K6.out.later HW.out)
              have g7 := G7.out.cell 0
              have k7 := K7.out.cell 0
              simp only [List.getElem?_toArray, List.getElem?_cons_zero] at g7 k7
              have HP1 := hid (pair1_any g.objs k.objs j _ _ h1 h2 A1 A3 c1 c3 w1.heap.size w3.heap.size wr g7 k7 (HO6.out.below HW.out) (HOK6.out.below HW.out) (by omega) (by omega) (by omega))
              have HSTEP : Hid (g.objs[j] = k.objs[j] → g.objs.take (j + 1) = k.objs.take (j + 1)) := fun e => take_objs hlt HGK.out HTK.out e
              have HNO : Hid (g.objs[j] ≠ k.objs[j] → g.objs ≠ k.objs) := fun e e2 => e (by simp [e2])
              clear h1 h2 hsl g7 k7
              go_wp2_with fail
              refine HP1.out.mono ?_
              rintro e w7 ⟨t, rfl, ht, hb7⟩
              have HT := hid ht
              have HB7 := hid (HW.out.trans (hb7.mono HW.out.size))
              clear ht hb7
              cases t
              · have HFA : Hid (sb = false) := by
                  show _ = _
                  rw [HSB.out]
                  refine saB_no fun g1 => ?_
                  obtain ⟨_, _, g3, _⟩ := same_iff.1 g1
                  refine HNO.out (fun e => ?_) (by rw [HG.out, HK.out]; exact g3)
                  have := HT.out.2 e
                  cases this
                go_wp2_with fail
                go_ret
                exact ⟨by rw [HFA.out]; rfl, HB6.out.trans (HB7.out.mono HB6.out.size)⟩
              · have HST := hid (HSTEP.out (HT.out.1 rfl))
                go_wp2_with fail
                go_roundw
                case rel => exact ⟨j + 1, by omega, by go_num, HST.out, HB7.out⟩
                case measure => simp [intOf]; omega
            · have HTR : Hid (sb = true) := by
                show _ = _
                rw [HSB.out]
                refine saB_yes (same_iff.2 ⟨HHA.out, HHB.out, ?_, by rw [← HL.out, ← HMM.out]; exact HLM.out⟩)
                have := HTK.out
                have e1 : j = g.objs.length := by omega
                rw [e1, List.take_length, HGK.out, List.take_length] at this
                rw [← HG.out, ← HK.out]; exact this
              go_wp2_with fail
              go_ret
              exact ⟨by rw [HTR.out]; rfl, HB6.out.trans (HW.out.mono HB6.out.size)⟩
        · have tc : ((g.objs.length : Int) != (k.objs.length : Int)) = true := by simp; omega
          have HGK := hid hgk
          clear hgk
          go_wp2_with fail
          refine (equal_any l m R1 R3 d1 d3 _ HI5.out HIK.out (by have := HLLEN.out; omega)).mono ?_
          rintro e w6 ⟨rfl, hb6⟩
          rw [decide_eq_true HLM.out]
          have HB6 := hid (HB5.out.trans (hb6.mono HB5.out.size))
          have G6 := hid (G5.out.later hb6)
          have K6 := hid (K5.out.later hb6)
          clear hb6 g0 k0
          have g0 := G6.out.cell 0
          have k0 := K6.out.cell 0
          simp only [List.getElem?_toArray, List.getElem?_cons_zero] at g0 k0
          have HFA : Hid (sb = false) := by
            show _ = _
            rw [HSB.out]
            refine saB_no fun g => ?_
            obtain ⟨g1, g2, g3, g4⟩ := same_iff.1 g
            exact HGK.out (by rw [HG.out, HK.out, g3])
          go_wp2_with fail
          go_ret
          exact ⟨by rw [HFA.out]; rfl, HB6.out⟩
      · have HLM := hid hlm
        clear hlm
        go_wp2_with fail
        refine (equal_any l m R1 R3 d1 d3 _ HI5.out HIK.out (by have := HLLEN.out; omega)).mono ?_
        rintro e w6 ⟨rfl, hb6⟩
        rw [decide_eq_false HLM.out]
        have HB6 := hid (HB5.out.trans (hb6.mono HB5.out.size))
        clear hb6 g0 k0
        have HFA : Hid (sb = false) := by
          show _ = _
          rw [HSB.out]
          refine saB_no fun g => ?_
          obtain ⟨g1, g2, g3, g4⟩ := same_iff.1 g
          exact HLM.out (by rw [HL.out, HMM.out]; exact g4)
        go_wp2_with fail
        go_ret
        exact ⟨by rw [HFA.out]; rfl, HB6.out⟩
    · have tb : (eb != 0) = true := by simpa using hb
      have HHB := hid hb
      clear hb ha
      have HFA : Hid (sb = false) := by
        show _ = _
        rw [HSB.out]
        refine saB_no fun g => ?_
        obtain ⟨g1, g2, g3, g4⟩ := same_iff.1 g
        exact HHB.out (by rw [HEB.out]; exact g2)
      go_wp2_with fail
      go_ret
      exact ⟨by rw [HFA.out]; rfl, HB5.out⟩
  · have ta : (ea != 0) = true := by simpa using ha
    have HHA := hid ha
    clear ha
    have HFA : Hid (sb = false) := by
      show _ = _
      rw [HSB.out]
      refine saB_no fun g => ?_
      obtain ⟨g1, g2, g3, g4⟩ := same_iff.1 g
      exact HHA.out (by rw [HEA.out]; exact g1)
    go_wp2_with fail
    go_ret
    exact ⟨by rw [HFA.out]; rfl, HB5.out⟩
end Go.Proofs.Ytjpibkcbgogfoaa
