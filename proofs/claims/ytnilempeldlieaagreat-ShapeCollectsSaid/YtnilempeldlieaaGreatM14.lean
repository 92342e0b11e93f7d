/- canon.Same walked. The program on states: are two the same but for numbers? R4.In walked. -/
import Derived.Test.YtnilempeldlieaaGreatM12
import Derived.Test.YtnilempeldlieaaGreatWCO
import Derived.Test.YtnilempeldlieaaGreatM09
import Derived.Test.YtnilempeldlieaaGreatM04
namespace Go.Proofs.YtnilempeldlieaaGreat
open Go.RowKit
set_option maxRecDepth 100000
/-- are they the same but for numbers? -/
noncomputable def saB (a : Hp) (p : List Int) (b : Hp) (q : List Int) : Bool := @decide (SameP a p b q) (Classical.propDecidable _)
theorem saB_iff {a b : Hp} {p q : List Int} : saB a p b q = true ↔ SameP a p b q := by unfold saB; exact @decide_eq_true_iff _ (Classical.propDecidable _)
theorem saB_yes {a b : Hp} {p q : List Int} (h : SameP a p b q) : saB a p b q = true := saB_iff.2 h
theorem saB_no {a b : Hp} {p q : List Int} (h : ¬ SameP a p b q) : saB a p b q = false := by
  cases g : saB a p b q
  · rfl
  · exact absurd (saB_iff.1 g) h
theorem cn_fit (h : Hp) (rs : List Int) : (cnH h rs).objs.length ≤ 256 ∧ ∀ o ∈ (cnH h rs).objs, o.slots.length ≤ 64 := by
  by_cases e : liE h rs = 0
  · have hm := cn_may e
    exact ⟨may_len hm, fun o ho => (kind_len (ob_kind (may_all hm o ho))).1⟩
  · rw [cnH_no e]
    exact ⟨Nat.zero_le _, fun o ho => by simp [zeroH] at ho⟩
theorem take_objs {os ps : List Ob} {k : Nat} (hk : k < os.length) (hl : os.length = ps.length) (h : os.take k = ps.take k) (e : os[k] = ps[k]'(by omega)) : os.take (k + 1) = ps.take (k + 1) := by
  rw [List.take_succ_eq_append_getElem hk, List.take_succ_eq_append_getElem (by omega), h, e]
set_option maxHeartbeats 1500000 in
theorem csame_any (a b : Hp) (p q : List Int) (A B P Q : Option Addr) (c d dp dq : Nat) (w : World) (hsa : ObsR w A a.objs) (fa : a.Fit) (hp : IntsR w P p) (hpl : p.length ≤ 100000) (hsb : ObsR w B b.objs) (fb : b.Fit) (hq : IntsR w Q q) (hql : q.length ≤ 100000) :
    Calls Tryz.prog 34 #[.agg #[.slice A a.objs.length c, .int .i64 a.cap, .int .i64 a.last], .slice P p.length dp, .agg #[.slice B b.objs.length d, .int .i64 b.cap, .int .i64 b.last], .slice Q q.length dq] w fun e w' => e = .returned (.bool (saB a p b q)) ∧ Below w.heap.size w w' := by
  have hmf : ∀ (fn : Fn) (first cap : Array Value) (w : World), (Instr.makeFunc fn first cap).run Tryz.prog w = .ok (.func fn first cap) w := fun _ _ _ _ => rfl
  have HB0 := hid (below_alloc2 w (.cells #[Value.slice A a.objs.length c, Value.int .i64 a.cap, Value.int .i64 a.last] 24) (.cells #[Value.slice B b.objs.length d, Value.int .i64 b.cap, Value.int .i64 b.last] 24))
  have X0 := hid ((Lies.new w 24 #[Value.slice A a.objs.length c, Value.int .i64 a.cap, Value.int .i64 a.last]).alloc (.cells #[Value.slice B b.objs.length d, Value.int .i64 b.cap, Value.int .i64 b.last] 24))
  have Y0 : Hid (Lies ((w.alloc (.cells #[Value.slice A a.objs.length c, Value.int .i64 a.cap, Value.int .i64 a.last] 24)).alloc (.cells #[Value.slice B b.objs.length d, Value.int .i64 b.cap, Value.int .i64 b.last] 24)) (w.heap.size + 1) 24 #[Value.slice B b.objs.length d, Value.int .i64 b.cap, Value.int .i64 b.last]) := by
    have := Lies.new (w.alloc (.cells #[Value.slice A a.objs.length c, Value.int .i64 a.cap, Value.int .i64 a.last] 24)) 24 #[Value.slice B b.objs.length d, Value.int .i64 b.cap, Value.int .i64 b.last]
    simpa [Hid] using this
  have HSA := hid hsa
  have HFA0 := hid fa
  have HP := hid hp
  have HSB0 := hid hsb
  have HFB0 := hid fb
  have HQ := hid hq
  clear hsa fa hp hsb fb hq
  obtain ⟨sb, hsb⟩ : ∃ sb, sb = saB a p b q := ⟨_, rfl⟩
  rw [← hsb]
  have HSB := hid hsb
  clear hsb
  obtain ⟨hgl, hgs⟩ := cn_fit a p
  obtain ⟨hkl, hks⟩ := cn_fit b q
  obtain ⟨g, hg⟩ : ∃ g, g = cnH a p := ⟨_, rfl⟩
  obtain ⟨l, hl⟩ : ∃ l, l = cnL a p := ⟨_, rfl⟩
  obtain ⟨ea, hea⟩ : ∃ ea, ea = liE a p := ⟨_, rfl⟩
  obtain ⟨k, hk⟩ : ∃ k, k = cnH b q := ⟨_, rfl⟩
  obtain ⟨m, hm⟩ : ∃ m, m = cnL b q := ⟨_, rfl⟩
  obtain ⟨eb, heb⟩ : ∃ eb, eb = liE b q := ⟨_, rfl⟩
  rw [← hg] at hgl hgs
  rw [← hk] at hkl hks
  have HG := hid hg
  have HL := hid hl
  have HEA := hid hea
  have HK := hid hk
  have HMM := hid hm
  have HEB := hid heb
  have HGS := hid hgs
  have HLLEN : Hid (l.length ≤ 100000) := by show _ ≤ _; rw [hl]; unfold cnL; split <;> simp <;> omega
  clear hg hl hea hk hm heb hgs hks
  go_enter Tryz.func34, Tryz.ntmps34
  go_wp2_with fail
  refine (of_any a p A P c dp _ (HSA.out.below HB0.out) HFA0.out (HP.out.below HB0.out) hpl).mono ?_
  rintro e w1 ⟨A1, c1, R1, d1, rfl, ho1, hi1, hb1⟩
  rw [← HG.out, ← HL.out, ← HEA.out]
  rw [← HG.out] at ho1
  rw [← HL.out] at hi1
  have HB1 := hid (HB0.out.trans (hb1.mono HB0.out.size))
  have Y1 := hid (Y0.out.later hb1)
  have HAL1 := hid (below_alloc w1 (.cells #[Value.slice A1 g.objs.length c1, Value.int .i64 g.cap, Value.int .i64 g.last] 24))
  have HB2 := hid (HB1.out.trans (HAL1.out.mono HB1.out.size))
  have G1 := hid (Lies.new w1 24 #[Value.slice A1 g.objs.length c1, Value.int .i64 g.cap, Value.int .i64 g.last])
  have Y2 := hid (Y1.out.later HAL1.out)
  have HO1 := hid (ho1.below HAL1.out)
  have HI1 := hid (hi1.below HAL1.out)
  clear hb1 ho1 hi1 X0 Y0 HB0 HB1 Y1
  have y0 := Y2.out.cell 0
  have y1 := Y2.out.cell 1
  have y2 := Y2.out.cell 2
  simp only [List.getElem?_toArray, List.getElem?_cons_zero, List.getElem?_cons_succ] at y0 y1 y2
  go_wp2_with fail
  refine (of_any b q B Q d dq _ (HSB0.out.below HB2.out) HFB0.out (HQ.out.below HB2.out) hql).mono ?_
  rintro e w3 ⟨A3, c3, R3, d3, rfl, ho3, hi3, hb3⟩
  rw [← HK.out, ← HMM.out, ← HEB.out]
  rw [← HK.out] at ho3
  rw [← HMM.out] at hi3
  have HAL3 := hid (below_alloc w3 (.cells #[Value.slice A3 k.objs.length c3, Value.int .i64 k.cap, Value.int .i64 k.last] 24))
  have hb4 := then_b hb3 HAL3.out
  have HB5 := hid (HB2.out.trans (hb4.mono HB2.out.size))
  have G5 := hid (G1.out.later hb4)
  have K5 := hid (Lies.new w3 24 #[Value.slice A3 k.objs.length c3, Value.int .i64 k.cap, Value.int .i64 k.last])
  have HO5 := hid (HO1.out.below hb4)
  have HI5 := hid (HI1.out.below hb4)
  have HOK := hid (ho3.below HAL3.out)
  have HIK := hid (hi3.below HAL3.out)
  have g0 := G5.out.cell 0
  have k0 := K5.out.cell 0
  simp only [List.getElem?_toArray, List.getElem?_cons_zero] at g0 k0
  clear hb3 hb4 ho3 hi3 y0 y1 y2 HB2 G1 Y2 HO1 HI1
  by_cases ha : ea = 0
  · have ta : (ea != 0) = false := by simp [ha]
    by_cases hb : eb = 0
    · have tb : (eb != 0) = false := by simp [hb]
      have HHA : Hid (liE a p = 0) := by show _ = _; rw [← HEA.out]; exact ha
      have HHB : Hid (liE b q = 0) := by show _ = _; rw [← HEB.out]; exact hb
      clear ha hb
      by_cases hlm : l = m
      · have HLM := hid hlm
        clear hlm
        by_cases hgk : g.objs.length = k.objs.length
        · have tc : ((g.objs.length : Int) != (k.objs.length : Int)) = false := by simp [hgk]
          have HGK := hid hgk
          clear hgk
          go_wp2_with fail
          refine (equal_any l m R1 R3 d1 d3 _ HI5.out HIK.out (by have := HLLEN.out; omega)).mono ?_
          rintro e w6 ⟨rfl, hb6⟩
          rw [decide_eq_true HLM.out]
          have HB6 := hid (HB5.out.trans (hb6.mono HB5.out.size))
          have G6 := hid (G5.out.later hb6)
          have K6 := hid (K5.out.later hb6)
          have HO6 := hid (HO5.out.below hb6)
          have HOK6 := hid (HOK.out.below hb6)
          clear hb6 g0 k0
          have g0 := G6.out.cell 0
          have k0 := K6.out.cell 0
          simp only [List.getElem?_toArray, List.getElem?_cons_zero] at g0 k0
          go_wp2_with fail
          go_loopw [56] (fun i wr => ∃ j : Nat, j ≤ g.objs.length ∧ i = .int .i64 j ∧ g.objs.take j = k.objs.take j ∧ Below w6.heap.size w6 wr) (fun i _ => g.objs.length - (intOf i).toNat)
          case atStart => exact ⟨0, Nat.zero_le _, rfl, rfl, Below.refl _ _⟩
          case round =>
            obtain ⟨j, hj, rfl, htk, hbw⟩ := hrel
            have HW := hid hbw
            have HTK := hid htk
            clear htk hbw
            by_cases hlt : j < g.objs.length
            · have hlt2 : j < k.objs.length := by have := HGK.out; omega
              have h1 := List.getElem?_eq_getElem hlt
              have h2 := List.getElem?_eq_getElem hlt2
              have hsl := HGS.out _ (List.getElem_mem hlt)
              have G7 := hid (G6.out.later HW.out)
              have K7 := hid (K6.out.later HW.out)
              have g7 := G7.out.cell 0
              have k7 := K7.out.cell 0
              simp only [List.getElem?_toArray, List.getElem?_cons_zero] at g7 k7
              have HP1 := hid (pair1_any g.objs k.objs j _ _ h1 h2 A1 A3 c1 c3 w1.heap.size w3.heap.size wr g7 k7 (HO6.out.below HW.out) (HOK6.out.below HW.out) (by omega) (by omega) (by omega))
              have HSTEP : Hid (g.objs[j] = k.objs[j] → g.objs.take (j + 1) = k.objs.take (j + 1)) := fun e => take_objs hlt HGK.out HTK.out e
              have HNO : Hid (g.objs[j] ≠ k.objs[j] → g.objs ≠ k.objs) := fun e e2 => e (by simp [e2])
              clear h1 h2 hsl g7 k7
              go_wp2_with fail
              refine HP1.out.mono ?_
              rintro e w7 ⟨t, rfl, ht, hb7⟩
              have HT := hid ht
              have HB7 := hid (HW.out.trans (hb7.mono HW.out.size))
              clear ht hb7
              cases t
              · have HFA : Hid (sb = false) := by
                  show _ = _
                  rw [HSB.out]
                  refine saB_no fun g1 => ?_
                  obtain ⟨_, _, g3, _⟩ := same_iff.1 g1
                  refine HNO.out (fun e => ?_) (by rw [HG.out, HK.out]; exact g3)
                  have := HT.out.2 e
                  cases this
                go_wp2_with fail
                go_ret
                exact ⟨by rw [HFA.out]; rfl, HB6.out.trans (HB7.out.mono HB6.out.size)⟩
              · have HST := hid (HSTEP.out (HT.out.1 rfl))
                go_wp2_with fail
                go_roundw
                case rel => exact ⟨j + 1, by omega, by go_num, HST.out, HB7.out⟩
                case measure => simp [intOf]; omega
            · have HTR : Hid (sb = true) := by
                show _ = _
                rw [HSB.out]
                refine saB_yes (same_iff.2 ⟨HHA.out, HHB.out, ?_, by rw [← HL.out, ← HMM.out]; exact HLM.out⟩)
                have := HTK.out
                have e1 : j = g.objs.length := by omega
                rw [e1, List.take_length, HGK.out, List.take_length] at this
                rw [← HG.out, ← HK.out]; exact this
              go_wp2_with fail
              go_ret
              exact ⟨by rw [HTR.out]; rfl, HB6.out.trans (HW.out.mono HB6.out.size)⟩
        · have tc : ((g.objs.length : Int) != (k.objs.length : Int)) = true := by simp; omega
          have HGK := hid hgk
          clear hgk
          go_wp2_with fail
          refine (equal_any l m R1 R3 d1 d3 _ HI5.out HIK.out (by have := HLLEN.out; omega)).mono ?_
          rintro e w6 ⟨rfl, hb6⟩
          rw [decide_eq_true HLM.out]
          have HB6 := hid (HB5.out.trans (hb6.mono HB5.out.size))
          have G6 := hid (G5.out.later hb6)
          have K6 := hid (K5.out.later hb6)
          clear hb6 g0 k0
          have g0 := G6.out.cell 0
          have k0 := K6.out.cell 0
          simp only [List.getElem?_toArray, List.getElem?_cons_zero] at g0 k0
          have HFA : Hid (sb = false) := by
            show _ = _
            rw [HSB.out]
            refine saB_no fun g => ?_
            obtain ⟨g1, g2, g3, g4⟩ := same_iff.1 g
            exact HGK.out (by rw [HG.out, HK.out, g3])
          go_wp2_with fail
          go_ret
          exact ⟨by rw [HFA.out]; rfl, HB6.out⟩
      · have HLM := hid hlm
        clear hlm
        go_wp2_with fail
        refine (equal_any l m R1 R3 d1 d3 _ HI5.out HIK.out (by have := HLLEN.out; omega)).mono ?_
        rintro e w6 ⟨rfl, hb6⟩
        rw [decide_eq_false HLM.out]
        have HB6 := hid (HB5.out.trans (hb6.mono HB5.out.size))
        clear hb6 g0 k0
        have HFA : Hid (sb = false) := by
          show _ = _
          rw [HSB.out]
          refine saB_no fun g => ?_
          obtain ⟨g1, g2, g3, g4⟩ := same_iff.1 g
          exact HLM.out (by rw [HL.out, HMM.out]; exact g4)
        go_wp2_with fail
        go_ret
        exact ⟨by rw [HFA.out]; rfl, HB6.out⟩
    · have tb : (eb != 0) = true := by simpa using hb
      have HHB := hid hb
      clear hb ha
      have HFA : Hid (sb = false) := by
        show _ = _
        rw [HSB.out]
        refine saB_no fun g => ?_
        obtain ⟨g1, g2, g3, g4⟩ := same_iff.1 g
        exact HHB.out (by rw [HEB.out]; exact g2)
      go_wp2_with fail
      go_ret
      exact ⟨by rw [HFA.out]; rfl, HB5.out⟩
  · have ta : (ea != 0) = true := by simpa using ha
    have HHA := hid ha
    clear ha
    have HFA : Hid (sb = false) := by
      show _ = _
      rw [HSB.out]
      refine saB_no fun g => ?_
      obtain ⟨g1, g2, g3, g4⟩ := same_iff.1 g
      exact HHA.out (by rw [HEA.out]; exact g1)
    go_wp2_with fail
    go_ret
    exact ⟨by rw [HFA.out]; rfl, HB5.out⟩
end Go.Proofs.YtnilempeldlieaaGreat
namespace Go.Proofs.YtnilempeldlieaaGreat
open Go.RowKit
set_option maxRecDepth 100000
theorem ss_sa {s t : St} (hx : ckB s = true) (hy : ckB t = true) (h1 : s.halt = t.halt) (h2 : s.steps = t.steps) (h3 : s.used = t.used) : ssB s t = saB s.hp (rt15 s) t.hp (rt15 t) := by
  cases g : saB s.hp (rt15 s) t.hp (rt15 t)
  · refine ssB_no fun h => ?_
    rw [saB_yes h.2.2.2.2.2] at g; cases g
  · exact ssB_iff.2 ⟨hx, hy, h1, h2, h3, saB_iff.1 g⟩
set_option maxHeartbeats 3000000 in
theorem csame_any15 (s : St) (A : Option Addr) (c : Nat) (t : St) (B : Option Addr) (d : Nat) (w : World) (hsX : ObsR w A s.hp.objs) (fitX : s.hp.Fit) (hsY : ObsR w B t.hp.objs) (fitY : t.hp.Fit) :
    Calls Tryz.prog 17 #[.agg #[.slice A s.hp.objs.length c, .int .i64 s.hp.cap, .int .i64 s.hp.last, .int .i64 s.proc, .int .i64 s.ready, .int .i64 s.halt, .int .i64 s.steps, .int .i64 s.used], .agg #[.slice B t.hp.objs.length d, .int .i64 t.hp.cap, .int .i64 t.hp.last, .int .i64 t.proc, .int .i64 t.ready, .int .i64 t.halt, .int .i64 t.steps, .int .i64 t.used]] w fun e w' => e = .returned (.bool (ssB s t)) ∧ Below w.heap.size w w' := by
  obtain ⟨w0, hw0⟩ : ∃ w0, w0 = ((w.alloc (.cells #[.slice A s.hp.objs.length c, .int .i64 s.hp.cap, .int .i64 s.hp.last, .int .i64 s.proc, .int .i64 s.ready, .int .i64 s.halt, .int .i64 s.steps, .int .i64 s.used] 27)).alloc (.cells #[.slice B t.hp.objs.length d, .int .i64 t.hp.cap, .int .i64 t.hp.last, .int .i64 t.proc, .int .i64 t.ready, .int .i64 t.halt, .int .i64 t.steps, .int .i64 t.used] 27)) := ⟨_, rfl⟩
  have HB0 : Hid (Below w.heap.size w w0) := by show Below _ _ _; rw [hw0]; exact below_alloc2 w _ _
  have X0 : Hid (Lies w0 (w.heap.size) 27 #[.slice A s.hp.objs.length c, .int .i64 s.hp.cap, .int .i64 s.hp.last, .int .i64 s.proc, .int .i64 s.ready, .int .i64 s.halt, .int .i64 s.steps, .int .i64 s.used]) := by
    show Lies _ _ _ _
    rw [hw0]
    have := (Lies.new w 27 #[.slice A s.hp.objs.length c, .int .i64 s.hp.cap, .int .i64 s.hp.last, .int .i64 s.proc, .int .i64 s.ready, .int .i64 s.halt, .int .i64 s.steps, .int .i64 s.used]).alloc (.cells #[.slice B t.hp.objs.length d, .int .i64 t.hp.cap, .int .i64 t.hp.last, .int .i64 t.proc, .int .i64 t.ready, .int .i64 t.halt, .int .i64 t.steps, .int .i64 t.used] 27)
    simpa [Hid] using this
  have OX0 := hid (hsX.below HB0.out)
  have HFX := hid fitX
  have hflX := fitX.1
  have Y0 : Hid (Lies w0 (w.heap.size + 1) 27 #[.slice B t.hp.objs.length d, .int .i64 t.hp.cap, .int .i64 t.hp.last, .int .i64 t.proc, .int .i64 t.ready, .int .i64 t.halt, .int .i64 t.steps, .int .i64 t.used]) := by
    show Lies _ _ _ _
    rw [hw0]
    have := Lies.new (w.alloc (.cells #[.slice A s.hp.objs.length c, .int .i64 s.hp.cap, .int .i64 s.hp.last, .int .i64 s.proc, .int .i64 s.ready, .int .i64 s.halt, .int .i64 s.steps, .int .i64 s.used] 27)) 27 #[.slice B t.hp.objs.length d, .int .i64 t.hp.cap, .int .i64 t.hp.last, .int .i64 t.proc, .int .i64 t.ready, .int .i64 t.halt, .int .i64 t.steps, .int .i64 t.used]
    simpa [Hid] using this
  have OY0 := hid (hsY.below HB0.out)
  have HFY := hid fitY
  have hflY := fitY.1
  obtain ⟨cI, hcI⟩ : ∃ x, x = ckI s := ⟨_, rfl⟩
  have HCI := hid hcI
  clear hcI
  obtain ⟨dI, hdI⟩ : ∃ x, x = ckI t := ⟨_, rfl⟩
  have HDI := hid hdI
  clear hdI
  clear hsX fitX hsY fitY
  go_enter Tryz.func17, Tryz.ntmps17
  go_upto_region 1 with fail
  rw [← hw0]
  clear hw0
  have x0 := X0.out.cell 0
  have x1 := X0.out.cell 1
  have x2 := X0.out.cell 2
  have x3 := X0.out.cell 3
  have x4 := X0.out.cell 4
  have x5 := X0.out.cell 5
  have x6 := X0.out.cell 6
  have x7 := X0.out.cell 7
  simp only [List.getElem?_toArray, List.getElem?_cons_zero, List.getElem?_cons_succ] at x0 x1 x2 x3 x4 x5 x6 x7
  have y0 := Y0.out.cell 0
  have y1 := Y0.out.cell 1
  have y2 := Y0.out.cell 2
  have y3 := Y0.out.cell 3
  have y4 := Y0.out.cell 4
  have y5 := Y0.out.cell 5
  have y6 := Y0.out.cell 6
  have y7 := Y0.out.cell 7
  simp only [List.getElem?_toArray, List.getElem?_cons_zero, List.getElem?_cons_succ] at y0 y1 y2 y3 y4 y5 y6 y7
  go_wp2_with fail
  refine (cck_any15 s A c _ OX0.out HFX.out).mono ?_
  rintro e w1 ⟨rfl, hb⟩
  clear x0 x1 x2 x3 x4 x5 x6 x7 y0 y1 y2 y3 y4 y5 y6 y7
  rw [← HCI.out]
  have HB1 := hid (then_w HB0.out hb)
  have X1 := hid (X0.out.later hb)
  have Y1 := hid (Y0.out.later hb)
  have OX1 := hid (OX0.out.below hb)
  have OY1 := hid (OY0.out.below hb)
  clear hb
  clear HB0 X0 Y0 OX0 OY0
  cases hx : ckB s
  · obtain rfl : cI = 150 := HCI.out.trans (ckI_no hx)
    have e : ssB s t = false := ssB_no fun h => by rw [hx] at h; exact absurd h.1 (by decide)
    have E := hid e
    clear e
    have x0 := X1.out.cell 0
    have x1 := X1.out.cell 1
    have x2 := X1.out.cell 2
    have x3 := X1.out.cell 3
    have x4 := X1.out.cell 4
    have x5 := X1.out.cell 5
    have x6 := X1.out.cell 6
    have x7 := X1.out.cell 7
    simp only [List.getElem?_toArray, List.getElem?_cons_zero, List.getElem?_cons_succ] at x0 x1 x2 x3 x4 x5 x6 x7
    have y0 := Y1.out.cell 0
    have y1 := Y1.out.cell 1
    have y2 := Y1.out.cell 2
    have y3 := Y1.out.cell 3
    have y4 := Y1.out.cell 4
    have y5 := Y1.out.cell 5
    have y6 := Y1.out.cell 6
    have y7 := Y1.out.cell 7
    simp only [List.getElem?_toArray, List.getElem?_cons_zero, List.getElem?_cons_succ] at y0 y1 y2 y3 y4 y5 y6 y7
    go_wp2_with fail
    clear x0 x1 x2 x3 x4 x5 x6 x7 y0 y1 y2 y3 y4 y5 y6 y7
    go_ret
    exact ⟨by rw [E.out]; rfl, HB1.out⟩
  · have HX1 := hid hx
    obtain rfl : cI = 0 := HCI.out.trans (ckI_yes hx)
    clear hx
    have x0 := X1.out.cell 0
    have x1 := X1.out.cell 1
    have x2 := X1.out.cell 2
    have x3 := X1.out.cell 3
    have x4 := X1.out.cell 4
    have x5 := X1.out.cell 5
    have x6 := X1.out.cell 6
    have x7 := X1.out.cell 7
    simp only [List.getElem?_toArray, List.getElem?_cons_zero, List.getElem?_cons_succ] at x0 x1 x2 x3 x4 x5 x6 x7
    have y0 := Y1.out.cell 0
    have y1 := Y1.out.cell 1
    have y2 := Y1.out.cell 2
    have y3 := Y1.out.cell 3
    have y4 := Y1.out.cell 4
    have y5 := Y1.out.cell 5
    have y6 := Y1.out.cell 6
    have y7 := Y1.out.cell 7
    simp only [List.getElem?_toArray, List.getElem?_cons_zero, List.getElem?_cons_succ] at y0 y1 y2 y3 y4 y5 y6 y7
    go_wp2_with fail
    refine (cck_any15 t B d _ OY1.out HFY.out).mono ?_
    rintro e w2 ⟨rfl, hb⟩
    clear x0 x1 x2 x3 x4 x5 x6 x7 y0 y1 y2 y3 y4 y5 y6 y7
    rw [← HDI.out]
    have HB2 := hid (then_w HB1.out hb)
    have X2 := hid (X1.out.later hb)
    have Y2 := hid (Y1.out.later hb)
    have OX2 := hid (OX1.out.below hb)
    have OY2 := hid (OY1.out.below hb)
    clear hb
    clear HB1 X1 Y1 OX1 OY1
    cases hx : ckB t
    · obtain rfl : dI = 150 := HDI.out.trans (ckI_no hx)
      have e : ssB s t = false := ssB_no fun h => by rw [hx] at h; exact absurd h.2.1 (by decide)
      have E := hid e
      clear e
      have x0 := X2.out.cell 0
      have x1 := X2.out.cell 1
      have x2 := X2.out.cell 2
      have x3 := X2.out.cell 3
      have x4 := X2.out.cell 4
      have x5 := X2.out.cell 5
      have x6 := X2.out.cell 6
      have x7 := X2.out.cell 7
      simp only [List.getElem?_toArray, List.getElem?_cons_zero, List.getElem?_cons_succ] at x0 x1 x2 x3 x4 x5 x6 x7
      have y0 := Y2.out.cell 0
      have y1 := Y2.out.cell 1
      have y2 := Y2.out.cell 2
      have y3 := Y2.out.cell 3
      have y4 := Y2.out.cell 4
      have y5 := Y2.out.cell 5
      have y6 := Y2.out.cell 6
      have y7 := Y2.out.cell 7
      simp only [List.getElem?_toArray, List.getElem?_cons_zero, List.getElem?_cons_succ] at y0 y1 y2 y3 y4 y5 y6 y7
      go_wp2_with fail
      clear x0 x1 x2 x3 x4 x5 x6 x7 y0 y1 y2 y3 y4 y5 y6 y7
      go_ret
      exact ⟨by rw [E.out]; rfl, HB2.out⟩
    · have HX2 := hid hx
      obtain rfl : dI = 0 := HDI.out.trans (ckI_yes hx)
      clear hx
      by_cases hhalt : s.halt = t.halt
      · have hbhalt : (s.halt != t.halt) = false := by simp [hhalt]
        have HEhalt := hid hhalt
        clear hhalt
        by_cases hsteps : s.steps = t.steps
        · have hbsteps : (s.steps != t.steps) = false := by simp [hsteps]
          have HEsteps := hid hsteps
          clear hsteps
          by_cases hused : s.used = t.used
          · have hbused : (s.used != t.used) = false := by simp [hused]
            have HEused := hid hused
            clear hused
            have E := hid (ss_sa HX1.out HX2.out HEhalt.out HEsteps.out HEused.out)
            have x0 := X2.out.cell 0
            have x1 := X2.out.cell 1
            have x2 := X2.out.cell 2
            have x3 := X2.out.cell 3
            have x4 := X2.out.cell 4
            have x5 := X2.out.cell 5
            have x6 := X2.out.cell 6
            have x7 := X2.out.cell 7
            simp only [List.getElem?_toArray, List.getElem?_cons_zero, List.getElem?_cons_succ] at x0 x1 x2 x3 x4 x5 x6 x7
            have y0 := Y2.out.cell 0
            have y1 := Y2.out.cell 1
            have y2 := Y2.out.cell 2
            have y3 := Y2.out.cell 3
            have y4 := Y2.out.cell 4
            have y5 := Y2.out.cell 5
            have y6 := Y2.out.cell 6
            have y7 := Y2.out.cell 7
            simp only [List.getElem?_toArray, List.getElem?_cons_zero, List.getElem?_cons_succ] at y0 y1 y2 y3 y4 y5 y6 y7
            go_wp2_with fail
            refine wp_region_held_drew (S := (fun w' => w'.cell? ⟨(w.heap.size), 0, none⟩ = some (.slice A s.hp.objs.length c) ∧ w'.cell? ⟨(w.heap.size), 1, none⟩ = some (.int .i64 s.hp.cap) ∧ w'.cell? ⟨(w.heap.size), 2, none⟩ = some (.int .i64 s.hp.last) ∧ w'.cell? ⟨(w.heap.size), 3, none⟩ = some (.int .i64 s.proc) ∧ w'.cell? ⟨(w.heap.size), 4, none⟩ = some (.int .i64 s.ready) ∧ w'.cell? ⟨(w.heap.size), 5, none⟩ = some (.int .i64 s.halt) ∧ w'.cell? ⟨(w.heap.size), 6, none⟩ = some (.int .i64 s.steps) ∧ w'.cell? ⟨(w.heap.size), 7, none⟩ = some (.int .i64 s.used) ∧ w'.cell? ⟨(w.heap.size + 1), 0, none⟩ = some (.slice B t.hp.objs.length d) ∧ w'.cell? ⟨(w.heap.size + 1), 1, none⟩ = some (.int .i64 t.hp.cap) ∧ w'.cell? ⟨(w.heap.size + 1), 2, none⟩ = some (.int .i64 t.hp.last) ∧ w'.cell? ⟨(w.heap.size + 1), 3, none⟩ = some (.int .i64 t.proc) ∧ w'.cell? ⟨(w.heap.size + 1), 4, none⟩ = some (.int .i64 t.ready) ∧ w'.cell? ⟨(w.heap.size + 1), 5, none⟩ = some (.int .i64 t.halt) ∧ w'.cell? ⟨(w.heap.size + 1), 6, none⟩ = some (.int .i64 t.steps) ∧ w'.cell? ⟨(w.heap.size + 1), 7, none⟩ = some (.int .i64 t.used))) (by kernel_rfl) ?_ (fun hH0 => ?_)
            · exact ⟨x0, x1, x2, x3, x4, x5, x6, x7, y0, y1, y2, y3, y4, y5, y6, y7⟩
            refine wpAnyH_take (i := 0) (oi := { dst := some 32, op := Go.Op.fieldAddr 27 (Go.Operand.tmp 2) 0, type := 0, pos := "shape.go:50", after := #[], guard := none }) (v := ?vv1) rfl (by kernel_rfl) (by kernel_rfl) (by kernel_rfl) (fun _ _ _ h => h) (Or.inl ⟨by rfl, ?hy1⟩) (by assumption) ?rr1
            case hy1 => intro w hSw; (try dsimp only at hSw); go_simp; all_goals with_reducible rfl
            try simp only [Act.put, List.setIfInBounds_toArray, List.set_cons_zero, List.set_cons_succ]
            refine wpAnyH_take (i := 1) (oi := { dst := some 33, op := Go.Op.load 24 (Go.Operand.tmp 32), type := 24, pos := "shape.go:50", after := #[{ on := 0, ground := Go.Ground.data }], guard := none }) (v := ?vv2) rfl (by kernel_rfl) (by kernel_rfl) (by kernel_rfl) (fun _ _ _ h => h) (Or.inl ⟨by rfl, ?hy2⟩) (by assumption) ?rr2
            case hy2 => intro w hSw; (try dsimp only at hSw); go_simp; all_goals with_reducible rfl
            try simp only [Act.put, List.setIfInBounds_toArray, List.set_cons_zero, List.set_cons_succ]
            refine wpAnyH_take (i := 2) (oi := { dst := some 34, op := Go.Op.load 27 (Go.Operand.tmp 2), type := 27, pos := "shape.go:50", after := #[], guard := none }) (v := ?vv3) rfl (by kernel_rfl) (by kernel_rfl) (by kernel_rfl) (fun _ _ _ h => h) (Or.inl ⟨by rfl, ?hy3⟩) (by assumption) ?rr3
            case hy3 => intro w hSw; (try dsimp only at hSw); go_simp; all_goals with_reducible rfl
            try simp only [Act.put, List.setIfInBounds_toArray, List.set_cons_zero, List.set_cons_succ]
            refine wpAnyH_take (i := 4) (oi := { dst := some 36, op := Go.Op.fieldAddr 27 (Go.Operand.tmp 3) 0, type := 0, pos := "shape.go:50", after := #[], guard := none }) (v := ?vv4) rfl (by kernel_rfl) (by kernel_rfl) (by kernel_rfl) (fun _ _ _ h => h) (Or.inl ⟨by rfl, ?hy4⟩) (by assumption) ?rr4
            case hy4 => intro w hSw; (try dsimp only at hSw); go_simp; all_goals with_reducible rfl
            try simp only [Act.put, List.setIfInBounds_toArray, List.set_cons_zero, List.set_cons_succ]
            refine wpAnyH_take (i := 5) (oi := { dst := some 37, op := Go.Op.load 24 (Go.Operand.tmp 36), type := 24, pos := "shape.go:50", after := #[{ on := 4, ground := Go.Ground.data }], guard := none }) (v := ?vv5) rfl (by kernel_rfl) (by kernel_rfl) (by kernel_rfl) (fun _ _ _ h => h) (Or.inl ⟨by rfl, ?hy5⟩) (by assumption) ?rr5
            case hy5 => intro w hSw; (try dsimp only at hSw); go_simp; all_goals with_reducible rfl
            try simp only [Act.put, List.setIfInBounds_toArray, List.set_cons_zero, List.set_cons_succ]
            refine wpAnyH_take (i := 6) (oi := { dst := some 38, op := Go.Op.load 27 (Go.Operand.tmp 3), type := 27, pos := "shape.go:50", after := #[], guard := none }) (v := ?vv6) rfl (by kernel_rfl) (by kernel_rfl) (by kernel_rfl) (fun _ _ _ h => h) (Or.inl ⟨by rfl, ?hy6⟩) (by assumption) ?rr6
            case hy6 => intro w hSw; (try dsimp only at hSw); go_simp; all_goals with_reducible rfl
            try simp only [Act.put, List.setIfInBounds_toArray, List.set_cons_zero, List.set_cons_succ]
            refine wpAnyH_ready (rs := [3]) (by kernel_rfl) (by simp) ?_
            refine AllReadyH.cons (i := 3) (o := { dst := some 35, op := Go.Op.call { callee := Go.Callee.value (Go.Operand.func 27), args := #[Go.Operand.tmp 34], argTypes := #[27] }, type := 34, pos := "shape.go:50", after := #[{ on := 2, ground := Go.Ground.data }], guard := none }) rfl (fun K hK => ?_) AllReadyH.nil
            go_simp
            go_at_call 27
            refine (roots_any15 s A c _ (OX2.out.below (Below.refl _ w2).drew) HFX.out).mono ?_
            rintro e v1 ⟨A1, c1, rfl, ho, hb⟩
            have HV1 := hid (then_b (Below.refl _ w2).drew hb)
            have HI1 := hid (own_ints ho)
            clear ho
            refine hK.out _ _ ?_ (fun hH1 => ?_)
            · exact ⟨cell_later hb hH0.1, cell_later hb hH0.2.1, cell_later hb hH0.2.2.1, cell_later hb hH0.2.2.2.1, cell_later hb hH0.2.2.2.2.1, cell_later hb hH0.2.2.2.2.2.1, cell_later hb hH0.2.2.2.2.2.2.1, cell_later hb hH0.2.2.2.2.2.2.2.1, cell_later hb hH0.2.2.2.2.2.2.2.2.1, cell_later hb hH0.2.2.2.2.2.2.2.2.2.1, cell_later hb hH0.2.2.2.2.2.2.2.2.2.2.1, cell_later hb hH0.2.2.2.2.2.2.2.2.2.2.2.1, cell_later hb hH0.2.2.2.2.2.2.2.2.2.2.2.2.1, cell_later hb hH0.2.2.2.2.2.2.2.2.2.2.2.2.2.1, cell_later hb hH0.2.2.2.2.2.2.2.2.2.2.2.2.2.2.1, cell_later hb hH0.2.2.2.2.2.2.2.2.2.2.2.2.2.2.2⟩
            clear hK K
            try simp only [Act.put, List.setIfInBounds_toArray, List.set_cons_zero, List.set_cons_succ]
            clear hb
            refine wpAnyH_ready (rs := [7]) (by kernel_rfl) (by simp) ?_
            refine AllReadyH.cons (i := 7) (o := { dst := some 39, op := Go.Op.call { callee := Go.Callee.value (Go.Operand.func 27), args := #[Go.Operand.tmp 38], argTypes := #[27] }, type := 34, pos := "shape.go:50", after := #[{ on := 6, ground := Go.Ground.data }, { on := 3, ground := Go.Ground.chain }], guard := none }) rfl (fun K hK => ?_) AllReadyH.nil
            go_simp
            go_at_call 27
            refine (roots_any15 t B d _ (OY2.out.below HV1.out) HFY.out).mono ?_
            rintro e v2 ⟨A2, c2, rfl, ho, hb⟩
            have HV2 := hid (then_b HV1.out hb)
            have HI2 := hid (own_ints ho)
            replace HI1 := hid (HI1.out.below hb)
            clear ho
            refine hK.out _ _ ?_ (fun hH2 => ?_)
            · exact ⟨cell_later hb hH1.1, cell_later hb hH1.2.1, cell_later hb hH1.2.2.1, cell_later hb hH1.2.2.2.1, cell_later hb hH1.2.2.2.2.1, cell_later hb hH1.2.2.2.2.2.1, cell_later hb hH1.2.2.2.2.2.2.1, cell_later hb hH1.2.2.2.2.2.2.2.1, cell_later hb hH1.2.2.2.2.2.2.2.2.1, cell_later hb hH1.2.2.2.2.2.2.2.2.2.1, cell_later hb hH1.2.2.2.2.2.2.2.2.2.2.1, cell_later hb hH1.2.2.2.2.2.2.2.2.2.2.2.1, cell_later hb hH1.2.2.2.2.2.2.2.2.2.2.2.2.1, cell_later hb hH1.2.2.2.2.2.2.2.2.2.2.2.2.2.1, cell_later hb hH1.2.2.2.2.2.2.2.2.2.2.2.2.2.2.1, cell_later hb hH1.2.2.2.2.2.2.2.2.2.2.2.2.2.2.2⟩
            clear hK K
            try simp only [Act.put, List.setIfInBounds_toArray, List.set_cons_zero, List.set_cons_succ]
            clear hb
            refine wpAnyH_ready (rs := [8]) (by kernel_rfl) (by simp) ?_
            refine AllReadyH.cons (i := 8) (o := { dst := some 40, op := Go.Op.call { callee := Go.Callee.value (Go.Operand.func 34), args := #[Go.Operand.tmp 33, Go.Operand.tmp 35, Go.Operand.tmp 37, Go.Operand.tmp 39], argTypes := #[24, 34, 24, 34] }, type := 4, pos := "shape.go:50", after := #[{ on := 1, ground := Go.Ground.data }, { on := 3, ground := Go.Ground.data }, { on := 5, ground := Go.Ground.data }, { on := 7, ground := Go.Ground.data }, { on := 7, ground := Go.Ground.chain }], guard := none }) rfl (fun K hK => ?_) AllReadyH.nil
            go_simp
            go_at_call 34
            refine (csame_any s.hp t.hp (rt15 s) (rt15 t) A B A1 A2 c d c1 c2 _ (OX2.out.below HV2.out) HFX.out HI1.out (by rw [rt15_len]; decide) (OY2.out.below HV2.out) HFY.out HI2.out (by rw [rt15_len]; decide)).mono ?_
            rintro e v3 ⟨rfl, hb⟩
            have HV3 := hid (then_b HV2.out hb)
            refine hK.out _ _ ?_ (fun hH3 => ?_)
            · exact ⟨cell_later hb hH2.1, cell_later hb hH2.2.1, cell_later hb hH2.2.2.1, cell_later hb hH2.2.2.2.1, cell_later hb hH2.2.2.2.2.1, cell_later hb hH2.2.2.2.2.2.1, cell_later hb hH2.2.2.2.2.2.2.1, cell_later hb hH2.2.2.2.2.2.2.2.1, cell_later hb hH2.2.2.2.2.2.2.2.2.1, cell_later hb hH2.2.2.2.2.2.2.2.2.2.1, cell_later hb hH2.2.2.2.2.2.2.2.2.2.2.1, cell_later hb hH2.2.2.2.2.2.2.2.2.2.2.2.1, cell_later hb hH2.2.2.2.2.2.2.2.2.2.2.2.2.1, cell_later hb hH2.2.2.2.2.2.2.2.2.2.2.2.2.2.1, cell_later hb hH2.2.2.2.2.2.2.2.2.2.2.2.2.2.2.1, cell_later hb hH2.2.2.2.2.2.2.2.2.2.2.2.2.2.2.2⟩
            clear hK K
            try simp only [Act.put, List.setIfInBounds_toArray, List.set_cons_zero, List.set_cons_succ]
            clear hb
            refine wpAnyH_take (i := 9) (oi := { dst := some 4, op := Go.Op.assign (Go.Operand.tmp 40), type := 4, pos := "shape.go:50", after := #[{ on := 8, ground := Go.Ground.data }, { on := 8, ground := Go.Ground.chain }, { on := 0, ground := Go.Ground.phase }, { on := 1, ground := Go.Ground.phase }, { on := 2, ground := Go.Ground.phase }, { on := 3, ground := Go.Ground.phase }, { on := 4, ground := Go.Ground.phase }, { on := 5, ground := Go.Ground.phase }, { on := 6, ground := Go.Ground.phase }, { on := 7, ground := Go.Ground.phase }, { on := 8, ground := Go.Ground.phase }], guard := none }) (v := ?vv7) rfl (by kernel_rfl) (by kernel_rfl) (by kernel_rfl) (fun _ _ _ h => h) (Or.inl ⟨by rfl, ?hy7⟩) (by assumption) ?rr7
            case hy7 => intro w hSw; (try dsimp only at hSw); go_simp; all_goals with_reducible rfl
            try simp only [Act.put, List.setIfInBounds_toArray, List.set_cons_zero, List.set_cons_succ]
            refine wpAnyH_done (by kernel_rfl) ?_ _
            go_wp2_with fail
            go_ret
            exact ⟨by rw [E.out]; rfl, then_b HB2.out HV3.out⟩
          · have hbused : (s.used != t.used) = true := by simpa using hused
            have e : ssB s t = false := ssB_no fun h => hused h.2.2.2.2.1
            have E := hid e
            clear e
            have x0 := X2.out.cell 0
            have x1 := X2.out.cell 1
            have x2 := X2.out.cell 2
            have x3 := X2.out.cell 3
            have x4 := X2.out.cell 4
            have x5 := X2.out.cell 5
            have x6 := X2.out.cell 6
            have x7 := X2.out.cell 7
            simp only [List.getElem?_toArray, List.getElem?_cons_zero, List.getElem?_cons_succ] at x0 x1 x2 x3 x4 x5 x6 x7
            have y0 := Y2.out.cell 0
            have y1 := Y2.out.cell 1
            have y2 := Y2.out.cell 2
            have y3 := Y2.out.cell 3
            have y4 := Y2.out.cell 4
            have y5 := Y2.out.cell 5
            have y6 := Y2.out.cell 6
            have y7 := Y2.out.cell 7
            simp only [List.getElem?_toArray, List.getElem?_cons_zero, List.getElem?_cons_succ] at y0 y1 y2 y3 y4 y5 y6 y7
            go_wp2_with fail
            clear x0 x1 x2 x3 x4 x5 x6 x7 y0 y1 y2 y3 y4 y5 y6 y7
            go_ret
            exact ⟨by rw [E.out]; rfl, HB2.out⟩
        · have hbsteps : (s.steps != t.steps) = true := by simpa using hsteps
          have e : ssB s t = false := ssB_no fun h => hsteps h.2.2.2.1
          have E := hid e
          clear e
          have x0 := X2.out.cell 0
          have x1 := X2.out.cell 1
          have x2 := X2.out.cell 2
          have x3 := X2.out.cell 3
          have x4 := X2.out.cell 4
          have x5 := X2.out.cell 5
          have x6 := X2.out.cell 6
          have x7 := X2.out.cell 7
          simp only [List.getElem?_toArray, List.getElem?_cons_zero, List.getElem?_cons_succ] at x0 x1 x2 x3 x4 x5 x6 x7
          have y0 := Y2.out.cell 0
          have y1 := Y2.out.cell 1
          have y2 := Y2.out.cell 2
          have y3 := Y2.out.cell 3
          have y4 := Y2.out.cell 4
          have y5 := Y2.out.cell 5
          have y6 := Y2.out.cell 6
          have y7 := Y2.out.cell 7
          simp only [List.getElem?_toArray, List.getElem?_cons_zero, List.getElem?_cons_succ] at y0 y1 y2 y3 y4 y5 y6 y7
          go_wp2_with fail
          clear x0 x1 x2 x3 x4 x5 x6 x7 y0 y1 y2 y3 y4 y5 y6 y7
          go_ret
          exact ⟨by rw [E.out]; rfl, HB2.out⟩
      · have hbhalt : (s.halt != t.halt) = true := by simpa using hhalt
        have e : ssB s t = false := ssB_no fun h => hhalt h.2.2.1
        have E := hid e
        clear e
        have x0 := X2.out.cell 0
        have x1 := X2.out.cell 1
        have x2 := X2.out.cell 2
        have x3 := X2.out.cell 3
        have x4 := X2.out.cell 4
        have x5 := X2.out.cell 5
        have x6 := X2.out.cell 6
        have x7 := X2.out.cell 7
        simp only [List.getElem?_toArray, List.getElem?_cons_zero, List.getElem?_cons_succ] at x0 x1 x2 x3 x4 x5 x6 x7
        have y0 := Y2.out.cell 0
        have y1 := Y2.out.cell 1
        have y2 := Y2.out.cell 2
        have y3 := Y2.out.cell 3
        have y4 := Y2.out.cell 4
        have y5 := Y2.out.cell 5
        have y6 := Y2.out.cell 6
        have y7 := Y2.out.cell 7
        simp only [List.getElem?_toArray, List.getElem?_cons_zero, List.getElem?_cons_succ] at y0 y1 y2 y3 y4 y5 y6 y7
        go_wp2_with fail
        clear x0 x1 x2 x3 x4 x5 x6 x7 y0 y1 y2 y3 y4 y5 y6 y7
        go_ret
        exact ⟨by rw [E.out]; rfl, HB2.out⟩
end Go.Proofs.YtnilempeldlieaaGreat
namespace Go.Proofs.YtnilempeldlieaaGreat
open Go.RowKit
set_option maxRecDepth 100000
/-- R4.In -/
theorem in_any (L : List Int) (x : Int) (A : Option Addr) (c : Nat) (w : World) (hs : IntsR w A L) (hl : L.length ≤ 9223372036854775807) :
    Calls Tryz.prog 100 #[.slice A L.length c, .int .i64 x] w fun e w' => e = .returned (.bool (decide (x ∈ L))) ∧ Below w.heap.size w w' := by
  have HS := hid hs
  clear hs
  go_enter Tryz.func100, Tryz.ntmps100
  go_wp2
  go_loopw [5] (fun i wr => ∃ k : Nat, k ≤ L.length ∧ i = .int .i64 k ∧ x ∉ L.take k ∧ Below w.heap.size w wr) (fun i _ => L.length - (intOf i).toNat)
  case atStart => exact ⟨0, Nat.zero_le _, rfl, by simp, Below.refl _ _⟩
  case round =>
    obtain ⟨k, hk, rfl, hno, hbw⟩ := hrel
    have HW := hid hbw
    have HN := hid hno
    clear hbw hno
    by_cases hlt : k < L.length
    · obtain ⟨bs, os, rfl, hbs, hcs⟩ := HS.out (by omega)
      have hcell : wr.cell? ⟨bs, os + k, none⟩ = some (.int .i64 L[k]) := (HW.out.cell (p := ⟨bs, os + k, none⟩) hbs).trans (hcs k _ (List.getElem?_eq_getElem hlt))
      clear hcs
      by_cases he : L[k] = x
      · have hcx : Hid (decide (x ∈ L) = true) := by show _ = _; rw [decide_eq_true_eq, ← he]; exact List.getElem_mem hlt
        rw [he] at hcell
        go_wp2
        go_ret
        exact ⟨by rw [hcx.out]; rfl, HW.out⟩
      · have hne : (L[k] == x) = false := by simpa using he
        have HNX : Hid (x ∉ L.take (k + 1)) := by
          show ¬ _
          rw [List.take_succ_eq_append_getElem hlt]
          simp only [List.mem_append, List.mem_singleton, not_or]
          exact ⟨HN.out, fun e => he e.symm⟩
        go_wp2
        go_roundw
        case rel => exact ⟨k + 1, by omega, by go_num, HNX.out, HW.out⟩
        case measure => simp [intOf]; omega
    · have hkn : k = L.length := by omega
      have hcx : Hid (decide (x ∈ L) = false) := by
        show _ = _
        have := HN.out
        rw [hkn, List.take_length] at this
        exact decide_eq_false this
      go_wp2
      go_ret
      exact ⟨by rw [hcx.out]; rfl, HW.out⟩
end Go.Proofs.YtnilempeldlieaaGreat
