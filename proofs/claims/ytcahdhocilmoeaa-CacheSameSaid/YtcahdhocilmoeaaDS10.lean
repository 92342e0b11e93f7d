/- CacheSame walked: whatever heaps, size and askings, it answers true. -/
import Derived.Test.YtcahdhocilmoeaaCJ10
import Derived.Test.YtcahdhocilmoeaaCG10
import Derived.Test.YtcahdhocilmoeaaOA10
import Derived.Test.YtcahdhocilmoeaaN
namespace Go.Proofs.Ytcahdhocilmoeaa
open Go.RowKit
set_option maxRecDepth 100000
/-- two boxes have changed what they hold -/
theorem swap_boxes10 {w W : World} {a b : Nat} {x0 x1 x2 y0 y1 y2 : Value} (hW : ((((((w.setCell ⟨a, 0, none⟩ y0).setCell ⟨a, 1, none⟩ y1).setCell ⟨a, 2, none⟩ y2).setCell ⟨b, 0, none⟩ x0).setCell ⟨b, 1, none⟩ x1).setCell ⟨b, 2, none⟩ x2) = W)
    (ha : Lies w a 24 #[x0, x1, x2]) (hb : Lies w b 24 #[y0, y1, y2]) (hn : a ≠ b) : Lies W a 24 #[y0, y1, y2] ∧ Lies W b 24 #[x0, x1, x2] ∧ (∀ k t cs, Lies w k t cs → k ≠ a → k ≠ b → Lies W k t cs) ∧ ∀ B w0, Below B w0 w → B ≤ a → B ≤ b → Below B w0 W := by
  subst hW
  refine ⟨?_, ?_, fun k t cs h h1 h2 => ?_, fun B w0 h h1 h2 => ?_⟩
  · have := (((((ha.set_ 0 y0).set_ 1 y1).set_ 2 y2).far (p := ⟨b, 0, none⟩) hn x0).far (p := ⟨b, 1, none⟩) hn x1).far (p := ⟨b, 2, none⟩) hn x2
    simpa using this
  · have := (((((hb.far (p := ⟨a, 0, none⟩) (fun e => hn e.symm) y0).far (p := ⟨a, 1, none⟩) (fun e => hn e.symm) y1).far (p := ⟨a, 2, none⟩) (fun e => hn e.symm) y2).set_ 0 x0).set_ 1 x1).set_ 2 x2
    simpa using this
  · exact (((((h.far (p := ⟨a, 0, none⟩) h1 y0).far (p := ⟨a, 1, none⟩) h1 y1).far (p := ⟨a, 2, none⟩) h1 y2).far (p := ⟨b, 0, none⟩) h2 x0).far (p := ⟨b, 1, none⟩) h2 x1).far (p := ⟨b, 2, none⟩) h2 x2
  · exact (((((h.setCell (p := ⟨a, 0, none⟩) h1 y0).setCell (p := ⟨a, 1, none⟩) h1 y1).setCell (p := ⟨a, 2, none⟩) h1 y2).setCell (p := ⟨b, 0, none⟩) h2 x0).setCell (p := ⟨b, 1, none⟩) h2 x1).setCell (p := ⟨b, 2, none⟩) h2 x2
set_option maxHeartbeats 2000000 in
theorem same10_any (h g : Hp) (z : Int) (l : List Ak) (A : Option Addr) (d : Nat) (G : Option Addr) (gd : Nat) (B : Option Addr) (e : Nat) (w : World) (hs : ObsR w A h.objs) (fit : h.Fit) (hsg : ObsR w G g.objs) (fitg : g.Fit) (hk : AksR w B l) (_fl : l.length ≤ 9223372036854775807) :
    Calls Try.prog 10 #[.agg #[.slice A h.objs.length d, .int .i64 h.cap, .int .i64 h.last], .agg #[.slice G g.objs.length gd, .int .i64 g.cap, .int .i64 g.last], .agg #[.int .i64 z, .slice B l.length e]] w fun en w' => en = .returned (.bool true) ∧ Below w.heap.size w w' := by
  obtain ⟨w0, hw0⟩ : ∃ u, u = ((w.alloc (.cells #[Value.slice A h.objs.length d, Value.int .i64 h.cap, Value.int .i64 h.last] 24)).alloc (.cells #[Value.slice G g.objs.length gd, Value.int .i64 g.cap, Value.int .i64 g.last] 24)).alloc (.cells #[.int .i64 z, .slice B l.length e] 50) := ⟨_, rfl⟩
  have HB0 : Hid (Below w.heap.size w w0) := by show Below _ _ _; rw [hw0]; exact (((((below_alloc w _)).alloc (by simp <;> omega) _)).alloc (by simp <;> omega) _)
  have X0 : Hid (Lies w0 (w.heap.size) 24 #[Value.slice A h.objs.length d, Value.int .i64 h.cap, Value.int .i64 h.last]) := by
    show Lies _ _ _ _
    rw [hw0]
    have := (((Lies.new w 24 #[Value.slice A h.objs.length d, Value.int .i64 h.cap, Value.int .i64 h.last]).alloc (.cells #[Value.slice G g.objs.length gd, Value.int .i64 g.cap, Value.int .i64 g.last] 24)).alloc (.cells #[.int .i64 z, .slice B l.length e] 50))
    simpa using this
  have Y0 : Hid (Lies w0 (w.heap.size + 1) 24 #[Value.slice G g.objs.length gd, Value.int .i64 g.cap, Value.int .i64 g.last]) := by
    show Lies _ _ _ _
    rw [hw0]
    have := ((Lies.new (w.alloc (.cells #[Value.slice A h.objs.length d, Value.int .i64 h.cap, Value.int .i64 h.last] 24)) 24 #[Value.slice G g.objs.length gd, Value.int .i64 g.cap, Value.int .i64 g.last]).alloc (.cells #[.int .i64 z, .slice B l.length e] 50))
    simpa using this
  have Q0 : Hid (Lies w0 (w.heap.size + 1 + 1) 50 #[.int .i64 z, .slice B l.length e]) := by
    show Lies _ _ _ _
    rw [hw0]
    have := (Lies.new ((w.alloc (.cells #[Value.slice A h.objs.length d, Value.int .i64 h.cap, Value.int .i64 h.last] 24)).alloc (.cells #[Value.slice G g.objs.length gd, Value.int .i64 g.cap, Value.int .i64 g.last] 24)) 50 #[.int .i64 z, .slice B l.length e])
    simpa using this
  have O0 := hid (hs.below HB0.out)
  have OG0 := hid (hsg.below HB0.out)
  have HSO := hid hs
  have HSG := hid hsg
  have HAK := hid hk
  have HF := hid fit
  have HFG := hid fitg
  clear hs fit hk hsg fitg
  go_enter Try.func10, Try.ntmps10
  go_upto_region 1 with fail
  rw [← hw0]
  clear hw0
  have x0 := X0.out.cell 0
  have x1 := X0.out.cell 1
  have x2 := X0.out.cell 2
  have y0 := Y0.out.cell 0
  have y1 := Y0.out.cell 1
  have y2 := Y0.out.cell 2
  have q0 := Q0.out.cell 0
  have q1 := Q0.out.cell 1
  simp only [List.getElem?_toArray, List.getElem?_cons_zero, List.getElem?_cons_succ] at x0 x1 x2 y0 y1 y2 q0 q1
  go_wp2_with fail
  refine (fixed10_any _).mono ?_
  rintro e w1 ⟨rfl, hb⟩
  have HB1 := hid (HB0.out.trans (hb.mono HB0.out.size))
  have X1 := hid (X0.out.later hb)
  have Y1 := hid (Y0.out.later hb)
  have Q1 := hid (Q0.out.later hb)
  have O1 := hid (O0.out.below hb)
  have OG1 := hid (OG0.out.below hb)
  clear x0 x1 x2 y0 y1 y2 q0 q1
  clear hb
  have x0 := X1.out.cell 0
  have x1 := X1.out.cell 1
  have x2 := X1.out.cell 2
  have y0 := Y1.out.cell 0
  have y1 := Y1.out.cell 1
  have y2 := Y1.out.cell 2
  have q0 := Q1.out.cell 0
  have q1 := Q1.out.cell 1
  simp only [List.getElem?_toArray, List.getElem?_cons_zero, List.getElem?_cons_succ] at x0 x1 x2 y0 y1 y2 q0 q1
  go_wp2_with fail
  refine (small_ok h A d _ O1.out HF.out).mono ?_
  rintro e w2 ⟨sm, rfl, hb⟩
  have HB2 := hid (HB1.out.trans (hb.mono HB1.out.size))
  have X2 := hid (X1.out.later hb)
  have Y2 := hid (Y1.out.later hb)
  have Q2 := hid (Q1.out.later hb)
  have O2 := hid (O1.out.below hb)
  have OG2 := hid (OG1.out.below hb)
  clear x0 x1 x2 y0 y1 y2 q0 q1
  clear hb
  have x0 := X2.out.cell 0
  have x1 := X2.out.cell 1
  have x2 := X2.out.cell 2
  have y0 := Y2.out.cell 0
  have y1 := Y2.out.cell 1
  have y2 := Y2.out.cell 2
  have q0 := Q2.out.cell 0
  have q1 := Q2.out.cell 1
  simp only [List.getElem?_toArray, List.getElem?_cons_zero, List.getElem?_cons_succ] at x0 x1 x2 y0 y1 y2 q0 q1
  cases sm
  · go_wp2_with fail
    refine (fixed10_any _).mono ?_
    rintro e w3 ⟨rfl, hb⟩
    have HB3 := hid (HB2.out.trans (hb.mono HB2.out.size))
    have X3 := hid (X2.out.later hb)
    have Y3 := hid (Y2.out.later hb)
    have Q3 := hid (Q2.out.later hb)
    have O3 := hid (O2.out.below hb)
    have OG3 := hid (OG2.out.below hb)
    clear x0 x1 x2 y0 y1 y2 q0 q1
    clear hb
    have x0 := X3.out.cell 0
    have x1 := X3.out.cell 1
    have x2 := X3.out.cell 2
    have y0 := Y3.out.cell 0
    have y1 := Y3.out.cell 1
    have y2 := Y3.out.cell 2
    have q0 := Q3.out.cell 0
    have q1 := Q3.out.cell 1
    simp only [List.getElem?_toArray, List.getElem?_cons_zero, List.getElem?_cons_succ] at x0 x1 x2 y0 y1 y2 q0 q1
    go_wp2_with fail
    go_ret
    exact ⟨rfl, HB3.out⟩
  · go_wp2_with fail
    refine (small_ok g G gd _ OG2.out HFG.out).mono ?_
    rintro e w3 ⟨smg, rfl, hb⟩
    have HB3 := hid (HB2.out.trans (hb.mono HB2.out.size))
    have X3 := hid (X2.out.later hb)
    have Y3 := hid (Y2.out.later hb)
    have Q3 := hid (Q2.out.later hb)
    have O3 := hid (O2.out.below hb)
    have OG3 := hid (OG2.out.below hb)
    clear x0 x1 x2 y0 y1 y2 q0 q1
    clear hb
    have x0 := X3.out.cell 0
    have x1 := X3.out.cell 1
    have x2 := X3.out.cell 2
    have y0 := Y3.out.cell 0
    have y1 := Y3.out.cell 1
    have y2 := Y3.out.cell 2
    have q0 := Q3.out.cell 0
    have q1 := Q3.out.cell 1
    simp only [List.getElem?_toArray, List.getElem?_cons_zero, List.getElem?_cons_succ] at x0 x1 x2 y0 y1 y2 q0 q1
    cases smg
    · go_wp2_with fail
      refine (fixed10_any _).mono ?_
      rintro e w4 ⟨rfl, hb⟩
      have HB4 := hid (HB3.out.trans (hb.mono HB3.out.size))
      have X4 := hid (X3.out.later hb)
      have Y4 := hid (Y3.out.later hb)
      have Q4 := hid (Q3.out.later hb)
      have O4 := hid (O3.out.below hb)
      have OG4 := hid (OG3.out.below hb)
      clear x0 x1 x2 y0 y1 y2 q0 q1
      clear hb
      have x0 := X4.out.cell 0
      have x1 := X4.out.cell 1
      have x2 := X4.out.cell 2
      have y0 := Y4.out.cell 0
      have y1 := Y4.out.cell 1
      have y2 := Y4.out.cell 2
      have q0 := Q4.out.cell 0
      have q1 := Q4.out.cell 1
      simp only [List.getElem?_toArray, List.getElem?_cons_zero, List.getElem?_cons_succ] at x0 x1 x2 y0 y1 y2 q0 q1
      go_wp2_with fail
      go_ret
      exact ⟨rfl, HB4.out⟩
    · by_cases c1 : 40 < h.objs.length
      · go_wp2_with fail
        refine (fixed10_any _).mono ?_
        rintro e w4 ⟨rfl, hb⟩
        have HB4 := hid (HB3.out.trans (hb.mono HB3.out.size))
        have X4 := hid (X3.out.later hb)
        have Y4 := hid (Y3.out.later hb)
        have Q4 := hid (Q3.out.later hb)
        have O4 := hid (O3.out.below hb)
        have OG4 := hid (OG3.out.below hb)
        clear x0 x1 x2 y0 y1 y2 q0 q1
        clear hb
        have x0 := X4.out.cell 0
        have x1 := X4.out.cell 1
        have x2 := X4.out.cell 2
        have y0 := Y4.out.cell 0
        have y1 := Y4.out.cell 1
        have y2 := Y4.out.cell 2
        have q0 := Q4.out.cell 0
        have q1 := Q4.out.cell 1
        simp only [List.getElem?_toArray, List.getElem?_cons_zero, List.getElem?_cons_succ] at x0 x1 x2 y0 y1 y2 q0 q1
        go_wp2_with fail
        go_ret
        exact ⟨rfl, HB4.out⟩
      · by_cases c0 : 40 < g.objs.length
        · go_wp2_with fail
          refine (fixed10_any _).mono ?_
          rintro e w4 ⟨rfl, hb⟩
          have HB4 := hid (HB3.out.trans (hb.mono HB3.out.size))
          have X4 := hid (X3.out.later hb)
          have Y4 := hid (Y3.out.later hb)
          have Q4 := hid (Q3.out.later hb)
          have O4 := hid (O3.out.below hb)
          have OG4 := hid (OG3.out.below hb)
          clear x0 x1 x2 y0 y1 y2 q0 q1
          clear hb
          have x0 := X4.out.cell 0
          have x1 := X4.out.cell 1
          have x2 := X4.out.cell 2
          have y0 := Y4.out.cell 0
          have y1 := Y4.out.cell 1
          have y2 := Y4.out.cell 2
          have q0 := Q4.out.cell 0
          have q1 := Q4.out.cell 1
          simp only [List.getElem?_toArray, List.getElem?_cons_zero, List.getElem?_cons_succ] at x0 x1 x2 y0 y1 y2 q0 q1
          go_wp2_with fail
          go_ret
          exact ⟨rfl, HB4.out⟩
        · by_cases c2 : 30 < l.length
          · go_wp2_with fail
            refine (fixed10_any _).mono ?_
            rintro e w4 ⟨rfl, hb⟩
            have HB4 := hid (HB3.out.trans (hb.mono HB3.out.size))
            have X4 := hid (X3.out.later hb)
            have Y4 := hid (Y3.out.later hb)
            have Q4 := hid (Q3.out.later hb)
            have O4 := hid (O3.out.below hb)
            have OG4 := hid (OG3.out.below hb)
            clear x0 x1 x2 y0 y1 y2 q0 q1
            clear hb
            have x0 := X4.out.cell 0
            have x1 := X4.out.cell 1
            have x2 := X4.out.cell 2
            have y0 := Y4.out.cell 0
            have y1 := Y4.out.cell 1
            have y2 := Y4.out.cell 2
            have q0 := Q4.out.cell 0
            have q1 := Q4.out.cell 1
            simp only [List.getElem?_toArray, List.getElem?_cons_zero, List.getElem?_cons_succ] at x0 x1 x2 y0 y1 y2 q0 q1
            go_wp2_with fail
            go_ret
            exact ⟨rfl, HB4.out⟩
          · by_cases c3 : z < 1
            · go_wp2_with fail
              refine (fixed10_any _).mono ?_
              rintro e w4 ⟨rfl, hb⟩
              have HB4 := hid (HB3.out.trans (hb.mono HB3.out.size))
              have X4 := hid (X3.out.later hb)
              have Y4 := hid (Y3.out.later hb)
              have Q4 := hid (Q3.out.later hb)
              have O4 := hid (O3.out.below hb)
              have OG4 := hid (OG3.out.below hb)
              clear x0 x1 x2 y0 y1 y2 q0 q1
              clear hb
              have x0 := X4.out.cell 0
              have x1 := X4.out.cell 1
              have x2 := X4.out.cell 2
              have y0 := Y4.out.cell 0
              have y1 := Y4.out.cell 1
              have y2 := Y4.out.cell 2
              have q0 := Q4.out.cell 0
              have q1 := Q4.out.cell 1
              simp only [List.getElem?_toArray, List.getElem?_cons_zero, List.getElem?_cons_succ] at x0 x1 x2 y0 y1 y2 q0 q1
              go_wp2_with fail
              go_ret
              exact ⟨rfl, HB4.out⟩
            · by_cases c4 : 64 < z
              · go_wp2_with fail
                refine (fixed10_any _).mono ?_
                rintro e w4 ⟨rfl, hb⟩
                have HB4 := hid (HB3.out.trans (hb.mono HB3.out.size))
                have X4 := hid (X3.out.later hb)
                have Y4 := hid (Y3.out.later hb)
                have Q4 := hid (Q3.out.later hb)
                have O4 := hid (O3.out.below hb)
                have OG4 := hid (OG3.out.below hb)
                clear x0 x1 x2 y0 y1 y2 q0 q1
                clear hb
                have x0 := X4.out.cell 0
                have x1 := X4.out.cell 1
                have x2 := X4.out.cell 2
                have y0 := Y4.out.cell 0
                have y1 := Y4.out.cell 1
                have y2 := Y4.out.cell 2
                have q0 := Q4.out.cell 0
                have q1 := Q4.out.cell 1
                simp only [List.getElem?_toArray, List.getElem?_cons_zero, List.getElem?_cons_succ] at x0 x1 x2 y0 y1 y2 q0 q1
                go_wp2_with fail
                go_ret
                exact ⟨rfl, HB4.out⟩
              · obtain ⟨k, rfl⟩ : ∃ k : Nat, z = k := ⟨z.toNat, by omega⟩
                have hk1 : 1 ≤ k := by omega
                have hk64 : k ≤ 64 := by omega
                go_wp2_with fail
                refine (new_any10 k hk1 hk64 _).mono ?_
                rintro en w4 ⟨p, q, rfl, hc, hp, hq, hb⟩
                have CP : Hid (w.heap.size ≤ p ∧ w.heap.size ≤ q) := ⟨Nat.le_trans HB3.out.size hp, Nat.le_trans HB3.out.size hq⟩
                have C4 := hid hc
                have HB4 := hid (then_w HB3.out hb)
                have X4 := hid (X3.out.later hb)
                have Y4 := hid (Y3.out.later hb)
                have Q4 := hid (Q3.out.later hb)
                clear hb
                clear x0 x1 x2 y0 y1 y2 q0 q1
                clear hc hp hq
                have x0 := X4.out.cell 0
                have x1 := X4.out.cell 1
                have x2 := X4.out.cell 2
                have y0 := Y4.out.cell 0
                have y1 := Y4.out.cell 1
                have y2 := Y4.out.cell 2
                have q0 := Q4.out.cell 0
                have q1 := Q4.out.cell 1
                simp only [List.getElem?_toArray, List.getElem?_cons_zero, List.getElem?_cons_succ] at x0 x1 x2 y0 y1 y2 q0 q1
                go_wp2_with fail
                clear x0 x1 x2 y0 y1 y2 q0 q1
                go_loopw [8] (fun i wr => ∃ (j : Nat) (L : List En) (n m : Int) (u v : Hp) (U V : Option Addr) (ud vd : Nat), j ≤ l.length ∧ i = .int .i64 j ∧ Hid (L.length = k) ∧ Hid (So10 u L) ∧ Hid (ObsR w U u.objs) ∧ Hid u.Fit ∧ Hid (ObsR w V v.objs) ∧ Hid v.Fit ∧ Hid (n + m ≤ j) ∧ 0 ≤ n ∧ 0 ≤ m ∧ Below w.heap.size w wr ∧ Lies wr w.heap.size 24 #[Value.slice U u.objs.length ud, Value.int .i64 u.cap, Value.int .i64 u.last] ∧ Lies wr (w.heap.size + 1) 24 #[Value.slice V v.objs.length vd, Value.int .i64 v.cap, Value.int .i64 v.last] ∧ Lies wr (w.heap.size + 1 + 1) 50 #[.int .i64 k, .slice B l.length e] ∧ Ca wr p q L n m) (fun i _ => l.length + 1 - (intOf i).toNat)
                case atStart => exact ⟨0, nw10 k, 0, 0, h, g, A, G, d, gd, by omega, rfl, nw10_len k, so_new10 h k, HSO, HF, HSG, HFG, by show (0 : Int) + 0 ≤ _; simp, by omega, by omega, HB4.out, X4.out, Y4.out, Q4.out, C4.out⟩
                case round =>
                  rename World => w50
                  obtain ⟨j, L, n, m, u, v, U, V, ud, vd, hjl, rfl, HLEN, HSL, HOU, HFU, HOV, HFV, HNM, hn0, hm0, hb, hx, hy, hq, hc⟩ := hrel
                  have HB50 := hid hb
                  have X50 := hid hx
                  have Y50 := hid hy
                  have Q50 := hid hq
                  have C50 := hid hc
                  have HL1 : Hid (1 ≤ L.length) := by show _ ≤ _; rw [HLEN.out]; exact hk1
                  have HL64 : Hid (L.length ≤ 64) := by show _ ≤ _; rw [HLEN.out]; exact hk64
                  clear hb hx hy hq hc
                  have x0 := X50.out.cell 0
                  have x1 := X50.out.cell 1
                  have x2 := X50.out.cell 2
                  have y0 := Y50.out.cell 0
                  have y1 := Y50.out.cell 1
                  have y2 := Y50.out.cell 2
                  have q0 := Q50.out.cell 0
                  have q1 := Q50.out.cell 1
                  simp only [List.getElem?_toArray, List.getElem?_cons_zero, List.getElem?_cons_succ] at x0 x1 x2 y0 y1 y2 q0 q1
                  by_cases hj : j < l.length
                  · obtain ⟨b, off, rfl, hlt, hcell⟩ := HAK.out (by omega)
                    have ha := hcell j _ (List.getElem?_eq_getElem (show j < l.length from hj))
                    obtain ⟨a, hal⟩ : ∃ a, a = l[j]'hj := ⟨_, rfl⟩
                    rw [← hal] at ha
                    obtain ⟨ac, as_, af, ao⟩ := a
                    simp only at ha
                    have HA := hid ha
                    have HBL := hid hlt
                    clear ha hal hcell hlt
                    have hjI : (j : Int) < (l.length : Int) := by omega
                    have hj0 : (0 : Int) ≤ (j : Int) := by omega
                    have hj30 : (j : Int) ≤ 30 := by omega
                    have hnN : 0 ≤ n ∧ n ≤ 1000 := by have := HNM.out; omega
                    have hmN : 0 ≤ m ∧ m ≤ 1000 := by have := HNM.out; omega
                    have w5_ : IntKind.i64.wrap ((j : Int) + 1) = (j : Int) + 1 := IntWalk.i64_in _ ⟨by omega, by omega⟩
                    have a0 := cell_later HB50.out HA.out.1
                    have a1 := cell_later HB50.out HA.out.2.1
                    have a2 := cell_later HB50.out HA.out.2.2.1
                    have a3 := cell_later HB50.out HA.out.2.2.2
                    go_upto_region 10 with fail
                    obtain ⟨w51, hw⟩ : ∃ u, u = w50.alloc (.cells #[.int .i64 ac, .int .i64 as_, .bool af, .bool ao] 56) := ⟨_, rfl⟩
                    have hb : Below w50.heap.size w50 w51 := by rw [hw]; exact below_alloc _ _
                    have K51 : Hid (Lies w51 w50.heap.size 56 #[.int .i64 ac, .int .i64 as_, .bool af, .bool ao]) := by show Lies _ _ _ _; rw [hw]; exact Lies.new _ _ _
                    rw [← hw]
                    clear hw a0 a1 a2 a3
                    have HB51 := hid (then_w HB50.out hb)
                    have X51 := hid (X50.out.later hb)
                    have Y51 := hid (Y50.out.later hb)
                    have Q51 := hid (Q50.out.later hb)
                    have C51 := hid (C50.out.later hb)
                    clear hb
                    clear x0 x1 x2 y0 y1 y2 q0 q1
                    obtain ⟨kb, hkb⟩ : ∃ b, b = w50.heap.size := ⟨_, rfl⟩
                    rw [← hkb] at K51 ⊢
                    clear hkb
                    have x0 := X51.out.cell 0
                    have x1 := X51.out.cell 1
                    have x2 := X51.out.cell 2
                    have y0 := Y51.out.cell 0
                    have y1 := Y51.out.cell 1
                    have y2 := Y51.out.cell 2
                    have q0 := Q51.out.cell 0
                    have q1 := Q51.out.cell 1
                    have k0 := K51.out.cell 0
                    have k1 := K51.out.cell 1
                    have k2 := K51.out.cell 2
                    have k3 := K51.out.cell 3
                    simp only [List.getElem?_toArray, List.getElem?_cons_zero, List.getElem?_cons_succ] at x0 x1 x2 y0 y1 y2 q0 q1 k0 k1 k2 k3
                    cases af
                    · go_upto_region 15 with fail
                      go_wp2_with fail
                      refine (find_any10 C51.out HL1.out HL64.out u ac as_ U ud (fun w' ho' => HOU.out.below (ho'.from_ HB51.out CP.out.1 CP.out.2 HB51.out.size)) HFU.out hnN hmN).mono ?_
                      rintro en w52 hfd
                      obtain ⟨n1, m1, rfl, hc, ho, hso1, hl1, hs1, hp1, hq1⟩ := hfd.so HSL.out HL1.out
                      unfold tu10
                      have HLK : Hid ((cb10 L u ac as_).length = k) := by show _ = _; rw [hl1]; exact HLEN.out
                      obtain ⟨L1, hL1⟩ : ∃ L1, L1 = cb10 L u ac as_ := ⟨_, rfl⟩
                      rw [← hL1] at hc hso1 HLK
                      have HSO1 := hid hso1
                      have HS1 : Hid (n1 + m1 ≤ (j : Int) + 1) := by show _ ≤ _; have := HNM.out; omega
                      obtain ⟨lv, at_, en_, hlk⟩ : ∃ v a e, lk9 u ac as_ = (v, a, e) := ⟨_, _, _, rfl⟩
                      have HLK9 := hid hlk
                      rw [hlk]
                      clear hL1 hso1 hl1 hs1 hlk
                      have HB52 := hid (ho.from_ HB51.out CP.out.1 CP.out.2 HB51.out.size)
                      have X52 := hid (ho.lies X51.out (lies_ne X51.out C51.out.box (by decide)) (lies_ne X51.out C51.out.row (by decide)))
                      have Y52 := hid (ho.lies Y51.out (lies_ne Y51.out C51.out.box (by decide)) (lies_ne Y51.out C51.out.row (by decide)))
                      have Q52 := hid (ho.lies Q51.out (lies_ne Q51.out C51.out.box (by decide)) (lies_ne Q51.out C51.out.row (by decide)))
                      have K52 := hid (ho.lies K51.out (lies_ne K51.out C51.out.box (by decide)) (lies_ne K51.out C51.out.row (by decide)))
                      have C52 := hid hc
                      clear hc ho
                      clear x0 x1 x2 y0 y1 y2 q0 q1 k0 k1 k2 k3
                      have x0 := X52.out.cell 0
                      have x1 := X52.out.cell 1
                      have x2 := X52.out.cell 2
                      have y0 := Y52.out.cell 0
                      have y1 := Y52.out.cell 1
                      have y2 := Y52.out.cell 2
                      have q0 := Q52.out.cell 0
                      have q1 := Q52.out.cell 1
                      have k0 := K52.out.cell 0
                      have k1 := K52.out.cell 1
                      have k2 := K52.out.cell 2
                      have k3 := K52.out.cell 3
                      simp only [List.getElem?_toArray, List.getElem?_cons_zero, List.getElem?_cons_succ] at x0 x1 x2 y0 y1 y2 q0 q1 k0 k1 k2 k3
                      go_wp2_with fail
                      refine (rlook_any10 u ac as_ U ud _ (HOU.out.below HB52.out) HFU.out).mono ?_
                      rintro en w53 ⟨rfl, hb⟩
                      unfold tv10
                      rw [HLK9.out]
                      have HB53 := hid (then_w HB52.out hb)
                      have X53 := hid (X52.out.later hb)
                      have Y53 := hid (Y52.out.later hb)
                      have Q53 := hid (Q52.out.later hb)
                      have K53 := hid (K52.out.later hb)
                      have C53 := hid (C52.out.later hb)
                      clear hb
                      clear x0 x1 x2 y0 y1 y2 q0 q1 k0 k1 k2 k3
                      have x0 := X53.out.cell 0
                      have x1 := X53.out.cell 1
                      have x2 := X53.out.cell 2
                      have y0 := Y53.out.cell 0
                      have y1 := Y53.out.cell 1
                      have y2 := Y53.out.cell 2
                      have q0 := Q53.out.cell 0
                      have q1 := Q53.out.cell 1
                      have k0 := K53.out.cell 0
                      have k1 := K53.out.cell 1
                      have k2 := K53.out.cell 2
                      have k3 := K53.out.cell 3
                      simp only [List.getElem?_toArray, List.getElem?_cons_zero, List.getElem?_cons_succ] at x0 x1 x2 y0 y1 y2 q0 q1 k0 k1 k2 k3
                      go_wp2_with fail
                      go_roundw
                      case rel => exact ⟨j + 1, L1, n1, m1, u, v, U, V, ud, vd, by omega, by go_num, HLK, HSO1, HOU, HFU, HOV, HFV, HS1, by omega, by omega, HB53.out, X53.out, Y53.out, Q53.out, C53.out⟩
                      case measure => simp only [intOf]; omega
                    · have fx0 := X51.out.frozen 0
                      have fx1 := X51.out.frozen 1
                      have fx2 := X51.out.frozen 2
                      have fy0 := Y51.out.frozen 0
                      have fy1 := Y51.out.frozen 1
                      have fy2 := Y51.out.frozen 2
                      have nxy : w.heap.size ≠ w.heap.size + 1 := by omega
                      have ltx : w.heap.size < w51.heap.size := X51.out.lt
                      have lty : w.heap.size + 1 < w51.heap.size := Y51.out.lt
                      go_upto_region 14 with fail
                      generalize hW : World.setCell _ _ _ = wz
                      obtain ⟨hX, hY, hL, hBl⟩ := swap_boxes10 hW X51.out Y51.out nxy
                      have hC : Ca wz p q L n m := ⟨hL _ _ _ C51.out.box (lies_ne C51.out.box X51.out (by decide)) (lies_ne C51.out.box Y51.out (by decide)), hL _ _ _ C51.out.row (lies_ne C51.out.row X51.out (by decide)) (lies_ne C51.out.row Y51.out (by decide))⟩
                      have hQ := hL _ _ _ Q51.out (by omega) (by omega)
                      have hB := hBl _ _ HB51.out (Nat.le_refl _) (Nat.le_succ _)
                      obtain ⟨w52, hz⟩ : ∃ wy, wy = wz.alloc (.cells #[Value.slice U u.objs.length ud, Value.int .i64 u.cap, Value.int .i64 u.last] 24) := ⟨_, rfl⟩
                      rw [← hz]
                      have hb : Below wz.heap.size wz w52 := by rw [hz]; exact below_alloc _ _
                      have X52 := hid (hX.later hb)
                      have Y52 := hid (hY.later hb)
                      have Q52 := hid (hQ.later hb)
                      have C52 := hid (hC.later hb)
                      have HB52 := hid (then_w hB hb)
                      clear hX hY hL hBl hW hC hQ hB hz hb fx0 fx1 fx2 fy0 fy1 fy2 ltx lty
                      clear x0 x1 x2 y0 y1 y2 q0 q1 k0 k1 k2 k3
                      go_wp2_with fail
                      refine (flush_any10 C52.out HL1.out).mono ?_
                      rintro en w53 ⟨rfl, hc, ho⟩
                      rw [HLEN.out] at hc
                      have HB53 := hid (ho.from_ HB52.out CP.out.1 CP.out.2 HB52.out.size)
                      have X53 := hid (ho.lies X52.out (lies_ne X52.out C52.out.box (by decide)) (lies_ne X52.out C52.out.row (by decide)))
                      have Y53 := hid (ho.lies Y52.out (lies_ne Y52.out C52.out.box (by decide)) (lies_ne Y52.out C52.out.row (by decide)))
                      have Q53 := hid (ho.lies Q52.out (lies_ne Q52.out C52.out.box (by decide)) (lies_ne Q52.out C52.out.row (by decide)))
                      have C53 := hid hc
                      clear hc ho
                      go_wp2_with fail
                      go_roundw
                      case rel => exact ⟨j + 1, nw10 k, n, m, v, u, V, U, vd, ud, by omega, by go_num, nw10_len k, so_new10 v k, HOV, HFV, HOU, HFU, by show _ ≤ _; have := HNM.out; omega, by omega, by omega, HB53.out, X53.out, Y53.out, Q53.out, C53.out⟩
                      case measure => simp only [intOf]; omega
                  · have hjI : ¬ (j : Int) < (l.length : Int) := by omega
                    go_wp2_with fail
                    go_ret
                    exact ⟨rfl, HB50.out⟩
end Go.Proofs.Ytcahdhocilmoeaa
