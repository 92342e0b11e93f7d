/- CacheTells walked: whatever heaps, size and askings, it answers true. -/
import Derived.Test.YtcahdhocilmoeaaCJ10
import Derived.Test.YtcahdhocilmoeaaCH10
import Derived.Test.YtcahdhocilmoeaaOA10
import Derived.Test.YtcahdhocilmoeaaN
namespace Go.Proofs.Ytcahdhocilmoeaa
open Go.RowKit
set_option maxRecDepth 100000
/-- a box holds another thing -/
theorem one_box10 {w W : World} {a : Nat} {x0 x1 x2 y0 y1 y2 : Value} (hW : ((w.setCell ⟨a, 0, none⟩ y0).setCell ⟨a, 1, none⟩ y1).setCell ⟨a, 2, none⟩ y2 = W)
    (ha : Lies w a 24 #[x0, x1, x2]) : Lies W a 24 #[y0, y1, y2] ∧ (∀ k t cs, Lies w k t cs → k ≠ a → Lies W k t cs) ∧ ∀ B w0, Below B w0 w → B ≤ a → Below B w0 W := by
  subst hW
  refine ⟨?_, fun k t cs h h1 => ?_, fun B w0 h h1 => ?_⟩
  · have := ((ha.set_ 0 y0).set_ 1 y1).set_ 2 y2
    simpa using this
  · exact ((h.far (p := ⟨a, 0, none⟩) h1 y0).far (p := ⟨a, 1, none⟩) h1 y1).far (p := ⟨a, 2, none⟩) h1 y2
  · exact ((h.setCell (p := ⟨a, 0, none⟩) h1 y0).setCell (p := ⟨a, 1, none⟩) h1 y1).setCell (p := ⟨a, 2, none⟩) h1 y2
set_option maxHeartbeats 2000000 in
theorem tells10_any (h g : Hp) (z : Int) (l : List Ak) (A : Option Addr) (d : Nat) (G : Option Addr) (gd : Nat) (B : Option Addr) (e : Nat) (w : World) (hs : ObsR w A h.objs) (fit : h.Fit) (hsg : ObsR w G g.objs) (fitg : g.Fit) (hk : AksR w B l) (_fl : l.length ≤ 9223372036854775807) :
    Calls Try.prog 9 #[.agg #[.slice A h.objs.length d, .int .i64 h.cap, .int .i64 h.last], .agg #[.slice G g.objs.length gd, .int .i64 g.cap, .int .i64 g.last], .agg #[.int .i64 z, .slice B l.length e]] w fun en w' => en = .returned (.bool true) ∧ Below w.heap.size w w' := by
  obtain ⟨w0, hw0⟩ : ∃ u, u = ((w.alloc (.cells #[Value.slice A h.objs.length d, Value.int .i64 h.cap, Value.int .i64 h.last] 24)).alloc (.cells #[Value.slice G g.objs.length gd, Value.int .i64 g.cap, Value.int .i64 g.last] 24)).alloc (.cells #[.int .i64 z, .slice B l.length e] 50) := ⟨_, rfl⟩
  have HB0 : Hid (Below w.heap.size w w0) := by show Below _ _ _; rw [hw0]; exact (((((below_alloc w _)).alloc (by simp <;> omega) _)).alloc (by simp <;> omega) _)
  have X0 : Hid (Lies w0 (w.heap.size) 24 #[Value.slice A h.objs.length d, Value.int .i64 h.cap, Value.int .i64 h.last]) := by
    show Lies _ _ _ _
    rw [hw0]
    have := (((Lies.new w 24 #[Value.slice A h.objs.length d, Value.int .i64 h.cap, Value.int .i64 h.last]).alloc (.cells #[Value.slice G g.objs.length gd, Value.int .i64 g.cap, Value.int .i64 g.last] 24)).alloc (.cells #[.int .i64 z, .slice B l.length e] 50))
    simpa using this
  have Y0 : Hid (Lies w0 (w.heap.size + 1) 24 #[Value.slice G g.objs.length gd, Value.int .i64 g.cap, Value.int .i64 g.last]) := by
    show Lies _ _ _ _
    rw [hw0]
    have := ((Lies.new (w.alloc (.cells #[Value.slice A h.objs.length d, Value.int .i64 h.cap, Value.int .i64 h.last] 24)) 24 #[Value.slice G g.objs.length gd, Value.int .i64 g.cap, Value.int .i64 g.last]).alloc (.cells #[.int .i64 z, .slice B l.length e] 50))
    simpa using this
  have Q0 : Hid (Lies w0 (w.heap.size + 1 + 1) 50 #[.int .i64 z, .slice B l.length e]) := by
    show Lies _ _ _ _
    rw [hw0]
    have := (Lies.new ((w.alloc (.cells #[Value.slice A h.objs.length d, Value.int .i64 h.cap, Value.int .i64 h.last] 24)).alloc (.cells #[Value.slice G g.objs.length gd, Value.int .i64 g.cap, Value.int .i64 g.last] 24)) 50 #[.int .i64 z, .slice B l.length e])
    simpa using this
  have O0 := hid (hs.below HB0.out)
  have OG0 := hid (hsg.below HB0.out)
  have HSO := hid hs
  have HSG := hid hsg
  have HAK := hid hk
  have HF := hid fit
  have HFG := hid fitg
  clear hs fit hk hsg fitg
  go_enter Try.func9, Try.ntmps9
  go_upto_region 1 with fail
  rw [← hw0]
  clear hw0
  have x0 := X0.out.cell 0
  have x1 := X0.out.cell 1
  have x2 := X0.out.cell 2
  have y0 := Y0.out.cell 0
  have y1 := Y0.out.cell 1
  have y2 := Y0.out.cell 2
  have q0 := Q0.out.cell 0
  have q1 := Q0.out.cell 1
  simp only [List.getElem?_toArray, List.getElem?_cons_zero, List.getElem?_cons_succ] at x0 x1 x2 y0 y1 y2 q0 q1
  go_wp2_with fail
  refine (small_ok h A d _ O0.out HF.out).mono ?_
  rintro e w1 ⟨sm, rfl, hb⟩
  have HB1 := hid (HB0.out.trans (hb.mono HB0.out.size))
  have X1 := hid (X0.out.later hb)
  have Y1 := hid (Y0.out.later hb)
  have Q1 := hid (Q0.out.later hb)
  have O1 := hid (O0.out.below hb)
  have OG1 := hid (OG0.out.below hb)
  clear x0 x1 x2 y0 y1 y2 q0 q1
  clear hb
  have x0 := X1.out.cell 0
  have x1 := X1.out.cell 1
  have x2 := X1.out.cell 2
  have y0 := Y1.out.cell 0
  have y1 := Y1.out.cell 1
  have y2 := Y1.out.cell 2
  have q0 := Q1.out.cell 0
  have q1 := Q1.out.cell 1
  simp only [List.getElem?_toArray, List.getElem?_cons_zero, List.getElem?_cons_succ] at x0 x1 x2 y0 y1 y2 q0 q1
  cases sm
  · go_wp2_with fail
    refine (fixed10_any _).mono ?_
    rintro e w2 ⟨rfl, hb⟩
    have HB2 := hid (HB1.out.trans (hb.mono HB1.out.size))
    have X2 := hid (X1.out.later hb)
    have Y2 := hid (Y1.out.later hb)
    have Q2 := hid (Q1.out.later hb)
    have O2 := hid (O1.out.below hb)
    have OG2 := hid (OG1.out.below hb)
    clear x0 x1 x2 y0 y1 y2 q0 q1
    clear hb
    have x0 := X2.out.cell 0
    have x1 := X2.out.cell 1
    have x2 := X2.out.cell 2
    have y0 := Y2.out.cell 0
    have y1 := Y2.out.cell 1
    have y2 := Y2.out.cell 2
    have q0 := Q2.out.cell 0
    have q1 := Q2.out.cell 1
    simp only [List.getElem?_toArray, List.getElem?_cons_zero, List.getElem?_cons_succ] at x0 x1 x2 y0 y1 y2 q0 q1
    go_wp2_with fail
    go_ret
    exact ⟨rfl, HB2.out⟩
  · go_wp2_with fail
    refine (small_ok g G gd _ OG1.out HFG.out).mono ?_
    rintro e w2 ⟨smg, rfl, hb⟩
    have HB2 := hid (HB1.out.trans (hb.mono HB1.out.size))
    have X2 := hid (X1.out.later hb)
    have Y2 := hid (Y1.out.later hb)
    have Q2 := hid (Q1.out.later hb)
    have O2 := hid (O1.out.below hb)
    have OG2 := hid (OG1.out.below hb)
    clear x0 x1 x2 y0 y1 y2 q0 q1
    clear hb
    have x0 := X2.out.cell 0
    have x1 := X2.out.cell 1
    have x2 := X2.out.cell 2
    have y0 := Y2.out.cell 0
    have y1 := Y2.out.cell 1
    have y2 := Y2.out.cell 2
    have q0 := Q2.out.cell 0
    have q1 := Q2.out.cell 1
    simp only [List.getElem?_toArray, List.getElem?_cons_zero, List.getElem?_cons_succ] at x0 x1 x2 y0 y1 y2 q0 q1
    cases smg
    · go_wp2_with fail
      refine (fixed10_any _).mono ?_
      rintro e w3 ⟨rfl, hb⟩
      have HB3 := hid (HB2.out.trans (hb.mono HB2.out.size))
      have X3 := hid (X2.out.later hb)
      have Y3 := hid (Y2.out.later hb)
      have Q3 := hid (Q2.out.later hb)
      have O3 := hid (O2.out.below hb)
      have OG3 := hid (OG2.out.below hb)
      clear x0 x1 x2 y0 y1 y2 q0 q1
      clear hb
      have x0 := X3.out.cell 0
      have x1 := X3.out.cell 1
      have x2 := X3.out.cell 2
      have y0 := Y3.out.cell 0
      have y1 := Y3.out.cell 1
      have y2 := Y3.out.cell 2
      have q0 := Q3.out.cell 0
      have q1 := Q3.out.cell 1
      simp only [List.getElem?_toArray, List.getElem?_cons_zero, List.getElem?_cons_succ] at x0 x1 x2 y0 y1 y2 q0 q1
      go_wp2_with fail
      go_ret
      exact ⟨rfl, HB3.out⟩
    · by_cases c1 : 40 < h.objs.length
      · go_wp2_with fail
        refine (fixed10_any _).mono ?_
        rintro e w3 ⟨rfl, hb⟩
        have HB3 := hid (HB2.out.trans (hb.mono HB2.out.size))
        have X3 := hid (X2.out.later hb)
        have Y3 := hid (Y2.out.later hb)
        have Q3 := hid (Q2.out.later hb)
        have O3 := hid (O2.out.below hb)
        have OG3 := hid (OG2.out.below hb)
        clear x0 x1 x2 y0 y1 y2 q0 q1
        clear hb
        have x0 := X3.out.cell 0
        have x1 := X3.out.cell 1
        have x2 := X3.out.cell 2
        have y0 := Y3.out.cell 0
        have y1 := Y3.out.cell 1
        have y2 := Y3.out.cell 2
        have q0 := Q3.out.cell 0
        have q1 := Q3.out.cell 1
        simp only [List.getElem?_toArray, List.getElem?_cons_zero, List.getElem?_cons_succ] at x0 x1 x2 y0 y1 y2 q0 q1
        go_wp2_with fail
        go_ret
        exact ⟨rfl, HB3.out⟩
      · by_cases c0 : 40 < g.objs.length
        · go_wp2_with fail
          refine (fixed10_any _).mono ?_
          rintro e w3 ⟨rfl, hb⟩
          have HB3 := hid (HB2.out.trans (hb.mono HB2.out.size))
          have X3 := hid (X2.out.later hb)
          have Y3 := hid (Y2.out.later hb)
          have Q3 := hid (Q2.out.later hb)
          have O3 := hid (O2.out.below hb)
          have OG3 := hid (OG2.out.below hb)
          clear x0 x1 x2 y0 y1 y2 q0 q1
          clear hb
          have x0 := X3.out.cell 0
          have x1 := X3.out.cell 1
          have x2 := X3.out.cell 2
          have y0 := Y3.out.cell 0
          have y1 := Y3.out.cell 1
          have y2 := Y3.out.cell 2
          have q0 := Q3.out.cell 0
          have q1 := Q3.out.cell 1
          simp only [List.getElem?_toArray, List.getElem?_cons_zero, List.getElem?_cons_succ] at x0 x1 x2 y0 y1 y2 q0 q1
          go_wp2_with fail
          go_ret
          exact ⟨rfl, HB3.out⟩
        · by_cases c2 : 30 < l.length
          · go_wp2_with fail
            refine (fixed10_any _).mono ?_
            rintro e w3 ⟨rfl, hb⟩
            have HB3 := hid (HB2.out.trans (hb.mono HB2.out.size))
            have X3 := hid (X2.out.later hb)
            have Y3 := hid (Y2.out.later hb)
            have Q3 := hid (Q2.out.later hb)
            have O3 := hid (O2.out.below hb)
            have OG3 := hid (OG2.out.below hb)
            clear x0 x1 x2 y0 y1 y2 q0 q1
            clear hb
            have x0 := X3.out.cell 0
            have x1 := X3.out.cell 1
            have x2 := X3.out.cell 2
            have y0 := Y3.out.cell 0
            have y1 := Y3.out.cell 1
            have y2 := Y3.out.cell 2
            have q0 := Q3.out.cell 0
            have q1 := Q3.out.cell 1
            simp only [List.getElem?_toArray, List.getElem?_cons_zero, List.getElem?_cons_succ] at x0 x1 x2 y0 y1 y2 q0 q1
            go_wp2_with fail
            go_ret
            exact ⟨rfl, HB3.out⟩
          · by_cases c3 : z < 1
            · go_wp2_with fail
              refine (fixed10_any _).mono ?_
              rintro e w3 ⟨rfl, hb⟩
              have HB3 := hid (HB2.out.trans (hb.mono HB2.out.size))
              have X3 := hid (X2.out.later hb)
              have Y3 := hid (Y2.out.later hb)
              have Q3 := hid (Q2.out.later hb)
              have O3 := hid (O2.out.below hb)
              have OG3 := hid (OG2.out.below hb)
              clear x0 x1 x2 y0 y1 y2 q0 q1
              clear hb
              have x0 := X3.out.cell 0
              have x1 := X3.out.cell 1
              have x2 := X3.out.cell 2
              have y0 := Y3.out.cell 0
              have y1 := Y3.out.cell 1
              have y2 := Y3.out.cell 2
              have q0 := Q3.out.cell 0
              have q1 := Q3.out.cell 1
              simp only [List.getElem?_toArray, List.getElem?_cons_zero, List.getElem?_cons_succ] at x0 x1 x2 y0 y1 y2 q0 q1
              go_wp2_with fail
              go_ret
              exact ⟨rfl, HB3.out⟩
            · by_cases c4 : 64 < z
              · go_wp2_with fail
                refine (fixed10_any _).mono ?_
                rintro e w3 ⟨rfl, hb⟩
                have HB3 := hid (HB2.out.trans (hb.mono HB2.out.size))
                have X3 := hid (X2.out.later hb)
                have Y3 := hid (Y2.out.later hb)
                have Q3 := hid (Q2.out.later hb)
                have O3 := hid (O2.out.below hb)
                have OG3 := hid (OG2.out.below hb)
                clear x0 x1 x2 y0 y1 y2 q0 q1
                clear hb
                have x0 := X3.out.cell 0
                have x1 := X3.out.cell 1
                have x2 := X3.out.cell 2
                have y0 := Y3.out.cell 0
                have y1 := Y3.out.cell 1
                have y2 := Y3.out.cell 2
                have q0 := Q3.out.cell 0
                have q1 := Q3.out.cell 1
                simp only [List.getElem?_toArray, List.getElem?_cons_zero, List.getElem?_cons_succ] at x0 x1 x2 y0 y1 y2 q0 q1
                go_wp2_with fail
                go_ret
                exact ⟨rfl, HB3.out⟩
              · obtain ⟨k, rfl⟩ : ∃ k : Nat, z = k := ⟨z.toNat, by omega⟩
                have hk1 : 1 ≤ k := by omega
                have hk64 : k ≤ 64 := by omega
                go_upto_region 3 with fail
                have HD := hid ((Below.refl w2.heap.size w2).drew)
                have HBD := hid (then_w HB2.out HD.out)
                refine wp_region_held_drew (S := (fun w' => w'.cell? ⟨w.heap.size + 1 + 1, 0, none⟩ = some (.int .i64 k))) (by kernel_rfl) ?_ (fun hH0 => ?_)
                · exact q0
                refine wpAnyH_take (i := 0) (oi := { dst := some 57, op := Go.Op.fieldAddr 50 (Go.Operand.tmp 5) 0, type := 0, pos := "law.go:48", after := #[], guard := none }) (v := ?vv1) rfl (by kernel_rfl) (by kernel_rfl) (by kernel_rfl) (fun _ _ _ h => h) (Or.inl ⟨by rfl, ?hy1⟩) (by assumption) ?rr1
                case hy1 => intro w hSw; (try dsimp only at hSw); go_simp; all_goals with_reducible rfl
                try simp only [Act.put, List.setIfInBounds_toArray, List.set_cons_zero, List.set_cons_succ]
                refine wpAnyH_take (i := 1) (oi := { dst := some 58, op := Go.Op.load 3 (Go.Operand.tmp 57), type := 3, pos := "law.go:48", after := #[{ on := 0, ground := Go.Ground.data }], guard := none }) (v := ?vv2) rfl (by kernel_rfl) (by kernel_rfl) (by kernel_rfl) (fun _ _ _ h => h) (Or.inl ⟨by rfl, ?hy2⟩) (by assumption) ?rr2
                case hy2 => intro w hSw; (try dsimp only at hSw); go_simp; all_goals with_reducible rfl
                try simp only [Act.put, List.setIfInBounds_toArray, List.set_cons_zero, List.set_cons_succ]
                refine wpAnyH_take (i := 3) (oi := { dst := some 60, op := Go.Op.fieldAddr 50 (Go.Operand.tmp 5) 0, type := 0, pos := "law.go:48", after := #[], guard := none }) (v := ?vv3) rfl (by kernel_rfl) (by kernel_rfl) (by kernel_rfl) (fun _ _ _ h => h) (Or.inl ⟨by rfl, ?hy3⟩) (by assumption) ?rr3
                case hy3 => intro w hSw; (try dsimp only at hSw); go_simp; all_goals with_reducible rfl
                try simp only [Act.put, List.setIfInBounds_toArray, List.set_cons_zero, List.set_cons_succ]
                refine wpAnyH_take (i := 4) (oi := { dst := some 61, op := Go.Op.load 3 (Go.Operand.tmp 60), type := 3, pos := "law.go:48", after := #[{ on := 3, ground := Go.Ground.data }], guard := none }) (v := ?vv4) rfl (by kernel_rfl) (by kernel_rfl) (by kernel_rfl) (fun _ _ _ h => h) (Or.inl ⟨by rfl, ?hy4⟩) (by assumption) ?rr4
                case hy4 => intro w hSw; (try dsimp only at hSw); go_simp; all_goals with_reducible rfl
                try simp only [Act.put, List.setIfInBounds_toArray, List.set_cons_zero, List.set_cons_succ]
                refine wpAnyH_ready (rs := [2]) (by kernel_rfl) (by simp) ?_
                refine AllReadyH.cons (i := 2) (o := { dst := some 59, op := Go.Op.call { callee := Go.Callee.value (Go.Operand.func 37), args := #[Go.Operand.tmp 58], argTypes := #[3] }, type := 51, pos := "law.go:48", after := #[{ on := 1, ground := Go.Ground.data }], guard := none }) rfl (fun K hK => ?_) AllReadyH.nil
                go_simp
                go_at_call 37
                refine (new_any10 k hk1 hk64 _).mono ?_
                rintro en u1 ⟨p, q, rfl, hc, hp, hq, hb⟩
                have CP : Hid (w.heap.size ≤ p ∧ w.heap.size ≤ q) := ⟨Nat.le_trans HBD.out.size hp, Nat.le_trans HBD.out.size hq⟩
                have HBu1 := hid (then_w HBD.out hb)
                have HDu1 := hid (then_w HD.out hb)
                have Cu1 := hid hc
                refine hK.out _ _ ?_ (fun hH1 => ?_)
                · exact cell_later hb hH0
                clear hK K
                try simp only [Act.put, List.setIfInBounds_toArray, List.set_cons_zero, List.set_cons_succ]
                clear hb hc hp hq
                refine wpAnyH_ready (rs := [5]) (by kernel_rfl) (by simp) ?_
                refine AllReadyH.cons (i := 5) (o := { dst := some 62, op := Go.Op.call { callee := Go.Callee.value (Go.Operand.func 38), args := #[Go.Operand.tmp 61], argTypes := #[3] }, type := 53, pos := "law.go:48", after := #[{ on := 4, ground := Go.Ground.data }, { on := 2, ground := Go.Ground.chain }], guard := none }) rfl (fun K hK => ?_) AllReadyH.nil
                go_simp
                go_at_call 38
                refine (rnew_any10 k hk1 hk64 _).mono ?_
                rintro en w3 ⟨p3, q3, rfl, hc, hp, hq, hb⟩
                have EP : Hid (w.heap.size ≤ p3 ∧ w.heap.size ≤ q3) := ⟨Nat.le_trans HBu1.out.size hp, Nat.le_trans HBu1.out.size hq⟩
                have HB3 := hid (then_w HBu1.out hb)
                have HD3 := hid (then_w HDu1.out hb)
                have E3 := hid hc
                have C3 := hid (Cu1.out.later hb)
                refine hK.out _ _ ?_ (fun hH2 => ?_)
                · exact cell_later hb hH1
                clear hK K
                try simp only [Act.put, List.setIfInBounds_toArray, List.set_cons_zero, List.set_cons_succ]
                clear hb hc hp hq
                refine wpAnyH_take (i := 6) (oi := { dst := some 7, op := Go.Op.assign (Go.Operand.tmp 59), type := 51, pos := "law.go:48", after := #[{ on := 2, ground := Go.Ground.data }, { on := 5, ground := Go.Ground.chain }, { on := 0, ground := Go.Ground.phase }, { on := 1, ground := Go.Ground.phase }, { on := 2, ground := Go.Ground.phase }, { on := 3, ground := Go.Ground.textOnly Go.Departure.lateStores }, { on := 4, ground := Go.Ground.textOnly Go.Departure.lateStores }, { on := 5, ground := Go.Ground.textOnly Go.Departure.lateStoresUnsure }], guard := none }) (v := ?vv5) rfl (by kernel_rfl) (by kernel_rfl) (by kernel_rfl) (fun _ _ _ h => h) (Or.inl ⟨by rfl, ?hy5⟩) (by assumption) ?rr5
                case hy5 => intro w hSw; (try dsimp only at hSw); go_simp; all_goals with_reducible rfl
                try simp only [Act.put, List.setIfInBounds_toArray, List.set_cons_zero, List.set_cons_succ]
                refine wpAnyH_take (i := 7) (oi := { dst := some 8, op := Go.Op.assign (Go.Operand.tmp 62), type := 53, pos := "law.go:48", after := #[{ on := 5, ground := Go.Ground.data }, { on := 6, ground := Go.Ground.chain }, { on := 0, ground := Go.Ground.phase }, { on := 1, ground := Go.Ground.phase }, { on := 2, ground := Go.Ground.phase }, { on := 3, ground := Go.Ground.phase }, { on := 4, ground := Go.Ground.phase }, { on := 5, ground := Go.Ground.phase }, { on := 6, ground := Go.Ground.phase }], guard := none }) (v := ?vv6) rfl (by kernel_rfl) (by kernel_rfl) (by kernel_rfl) (fun _ _ _ h => h) (Or.inl ⟨by rfl, ?hy6⟩) (by assumption) ?rr6
                case hy6 => intro w hSw; (try dsimp only at hSw); go_simp; all_goals with_reducible rfl
                try simp only [Act.put, List.setIfInBounds_toArray, List.set_cons_zero, List.set_cons_succ]
                refine wpAnyH_done (by kernel_rfl) ?_ _
                have X3 := hid (X2.out.later HD3.out)
                have Y3 := hid (Y2.out.later HD3.out)
                have Q3 := hid (Q2.out.later HD3.out)
                clear HD HBD HDu1 HBu1 hH0 hH1 hH2 x0 x1 x2 y0 y1 y2 q0 q1
                have x0 := X3.out.cell 0
                have x1 := X3.out.cell 1
                have x2 := X3.out.cell 2
                have y0 := Y3.out.cell 0
                have y1 := Y3.out.cell 1
                have y2 := Y3.out.cell 2
                have q0 := Q3.out.cell 0
                have q1 := Q3.out.cell 1
                simp only [List.getElem?_toArray, List.getElem?_cons_zero, List.getElem?_cons_succ] at x0 x1 x2 y0 y1 y2 q0 q1
                go_wp2_with fail
                clear x0 x1 x2 y0 y1 y2 q0 q1
                go_loopw [9] (fun i wr => ∃ (j : Nat) (L : List En) (n m : Int), j ≤ l.length ∧ i = .int .i64 j ∧ Hid (L.length = k) ∧ Hid (n + m ≤ j) ∧ 0 ≤ n ∧ 0 ≤ m ∧ Below w.heap.size w wr ∧ Lies wr w.heap.size 24 #[Value.slice A h.objs.length d, Value.int .i64 h.cap, Value.int .i64 h.last] ∧ Lies wr (w.heap.size + 1) 24 #[Value.slice G g.objs.length gd, Value.int .i64 g.cap, Value.int .i64 g.last] ∧ Lies wr (w.heap.size + 1 + 1) 50 #[.int .i64 k, .slice B l.length e] ∧ Ca wr p q L n m ∧ Cr wr p3 q3 L n m) (fun i _ => l.length + 1 - (intOf i).toNat)
                case atStart => exact ⟨0, nw10 k, 0, 0, by omega, rfl, nw10_len k, by show (0 : Int) + 0 ≤ _; simp, by omega, by omega, HB3.out, X3.out, Y3.out, Q3.out, C3.out, E3.out⟩
                case round =>
                  rename World => w50
                  obtain ⟨j, L, n, m, hjl, rfl, HLEN, HNM, hn0, hm0, hb, hx, hy, hq, hc, hce⟩ := hrel
                  have HB50 := hid hb
                  have X50 := hid hx
                  have Y50 := hid hy
                  have Q50 := hid hq
                  have C50 := hid hc
                  have E50 := hid hce
                  have HL1 : Hid (1 ≤ L.length) := by show _ ≤ _; rw [HLEN.out]; exact hk1
                  have HL64 : Hid (L.length ≤ 64) := by show _ ≤ _; rw [HLEN.out]; exact hk64
                  clear hb hx hy hq hc hce
                  have x0 := X50.out.cell 0
                  have x1 := X50.out.cell 1
                  have x2 := X50.out.cell 2
                  have y0 := Y50.out.cell 0
                  have y1 := Y50.out.cell 1
                  have y2 := Y50.out.cell 2
                  have q0 := Q50.out.cell 0
                  have q1 := Q50.out.cell 1
                  simp only [List.getElem?_toArray, List.getElem?_cons_zero, List.getElem?_cons_succ] at x0 x1 x2 y0 y1 y2 q0 q1
                  by_cases hj : j < l.length
                  · obtain ⟨b, off, rfl, hlt, hcell⟩ := HAK.out (by omega)
                    have ha := hcell j _ (List.getElem?_eq_getElem (show j < l.length from hj))
                    obtain ⟨a, hal⟩ : ∃ a, a = l[j]'hj := ⟨_, rfl⟩
                    rw [← hal] at ha
                    obtain ⟨ac, as_, af, ao⟩ := a
                    simp only at ha
                    have HA := hid ha
                    have HBL := hid hlt
                    clear ha hal hcell hlt
                    have hjI : (j : Int) < (l.length : Int) := by omega
                    have hj0 : (0 : Int) ≤ (j : Int) := by omega
                    have hj30 : (j : Int) ≤ 30 := by omega
                    have hnN : 0 ≤ n ∧ n ≤ 1000 := by have := HNM.out; omega
                    have hmN : 0 ≤ m ∧ m ≤ 1000 := by have := HNM.out; omega
                    have w5_ : IntKind.i64.wrap ((j : Int) + 1) = (j : Int) + 1 := IntWalk.i64_in _ ⟨by omega, by omega⟩
                    have a0 := cell_later HB50.out HA.out.1
                    have a1 := cell_later HB50.out HA.out.2.1
                    have a2 := cell_later HB50.out HA.out.2.2.1
                    have a3 := cell_later HB50.out HA.out.2.2.2
                    go_upto_region 10 with fail
                    obtain ⟨w51, hw⟩ : ∃ u, u = w50.alloc (.cells #[.int .i64 ac, .int .i64 as_, .bool af, .bool ao] 56) := ⟨_, rfl⟩
                    have hb : Below w50.heap.size w50 w51 := by rw [hw]; exact below_alloc _ _
                    have K51 : Hid (Lies w51 w50.heap.size 56 #[.int .i64 ac, .int .i64 as_, .bool af, .bool ao]) := by show Lies _ _ _ _; rw [hw]; exact Lies.new _ _ _
                    rw [← hw]
                    clear hw a0 a1 a2 a3
                    have HB51 := hid (then_w HB50.out hb)
                    have X51 := hid (X50.out.later hb)
                    have Y51 := hid (Y50.out.later hb)
                    have Q51 := hid (Q50.out.later hb)
                    have C51 := hid (C50.out.later hb)
                    have E51 := hid (E50.out.later hb)
                    clear hb
                    clear x0 x1 x2 y0 y1 y2 q0 q1
                    obtain ⟨kb, hkb⟩ : ∃ b, b = w50.heap.size := ⟨_, rfl⟩
                    rw [← hkb] at K51 ⊢
                    clear hkb
                    have x0 := X51.out.cell 0
                    have x1 := X51.out.cell 1
                    have x2 := X51.out.cell 2
                    have y0 := Y51.out.cell 0
                    have y1 := Y51.out.cell 1
                    have y2 := Y51.out.cell 2
                    have q0 := Q51.out.cell 0
                    have q1 := Q51.out.cell 1
                    have k0 := K51.out.cell 0
                    have k1 := K51.out.cell 1
                    have k2 := K51.out.cell 2
                    have k3 := K51.out.cell 3
                    simp only [List.getElem?_toArray, List.getElem?_cons_zero, List.getElem?_cons_succ] at x0 x1 x2 y0 y1 y2 q0 q1 k0 k1 k2 k3
                    cases af
                    · go_upto_region 14 with fail
                      obtain ⟨w52, hw⟩ : ∃ u, u = w51.alloc (.cells #[Value.slice A h.objs.length d, Value.int .i64 h.cap, Value.int .i64 h.last] 24) := ⟨_, rfl⟩
                      have hb : Below w51.heap.size w51 w52 := by rw [hw]; exact below_alloc _ _
                      have J52 : Hid (Lies w52 w51.heap.size 24 #[Value.slice A h.objs.length d, Value.int .i64 h.cap, Value.int .i64 h.last]) := by show Lies _ _ _ _; rw [hw]; exact Lies.new _ _ _
                      have HJB : Hid (w.heap.size + 1 + 1 < w51.heap.size ∧ kb < w51.heap.size) := ⟨Q51.out.lt, K51.out.lt⟩
                      rw [← hw]
                      clear hw
                      have HB52 := hid (then_w HB51.out hb)
                      have X52 := hid (X51.out.later hb)
                      have Y52 := hid (Y51.out.later hb)
                      have Q52 := hid (Q51.out.later hb)
                      have K52 := hid (K51.out.later hb)
                      have C52 := hid (C51.out.later hb)
                      have E52 := hid (E51.out.later hb)
                      clear hb
                      clear x0 x1 x2 y0 y1 y2 q0 q1 k0 k1 k2 k3
                      obtain ⟨fb, hfb⟩ : ∃ b, b = w51.heap.size := ⟨_, rfl⟩
                      rw [← hfb] at J52 HJB ⊢
                      clear hfb
                      have x0 := X52.out.cell 0
                      have x1 := X52.out.cell 1
                      have x2 := X52.out.cell 2
                      have y0 := Y52.out.cell 0
                      have y1 := Y52.out.cell 1
                      have y2 := Y52.out.cell 2
                      have q0 := Q52.out.cell 0
                      have q1 := Q52.out.cell 1
                      have k0 := K52.out.cell 0
                      have k1 := K52.out.cell 1
                      have k2 := K52.out.cell 2
                      have k3 := K52.out.cell 3
                      have f0 := J52.out.cell 0
                      have f1 := J52.out.cell 1
                      have f2 := J52.out.cell 2
                      simp only [List.getElem?_toArray, List.getElem?_cons_zero, List.getElem?_cons_succ] at x0 x1 x2 y0 y1 y2 q0 q1 k0 k1 k2 k3 f0 f1 f2
                      cases ao
                      · go_upto_region 16 with fail
                        go_wp2_with fail
                        refine (find_any10 C52.out HL1.out HL64.out h ac as_ A d (fun w' ho' => HSO.out.below (ho'.from_ HB52.out CP.out.1 CP.out.2 HB52.out.size)) HF.out hnN hmN).mono ?_
                        rintro en w53 ⟨rfl, hc, ho⟩
                        obtain ⟨lv, at_, en_, hlk⟩ : ∃ v a e, fd10 L h ac as_ = (v, a, e) := ⟨_, _, _, rfl⟩
                        have HFD := hid hlk
                        rw [hlk]
                        unfold tu10
                        clear hlk
                        have HB53 := hid (ho.from_ HB52.out CP.out.1 CP.out.2 HB52.out.size)
                        have X53 := hid (ho.lies X52.out (lies_ne X52.out C52.out.box (by decide)) (lies_ne X52.out C52.out.row (by decide)))
                        have Y53 := hid (ho.lies Y52.out (lies_ne Y52.out C52.out.box (by decide)) (lies_ne Y52.out C52.out.row (by decide)))
                        have Q53 := hid (ho.lies Q52.out (lies_ne Q52.out C52.out.box (by decide)) (lies_ne Q52.out C52.out.row (by decide)))
                        have K53 := hid (ho.lies K52.out (lies_ne K52.out C52.out.box (by decide)) (lies_ne K52.out C52.out.row (by decide)))
                        have J53 := hid (ho.lies J52.out (lies_ne J52.out C52.out.box (by decide)) (lies_ne J52.out C52.out.row (by decide)))
                        have C53 := hid hc
                        have E53 := hid (E52.out.farP C52.out ho)
                        clear hc ho
                        clear x0 x1 x2 y0 y1 y2 q0 q1 k0 k1 k2 k3 f0 f1 f2
                        have x0 := X53.out.cell 0
                        have x1 := X53.out.cell 1
                        have x2 := X53.out.cell 2
                        have y0 := Y53.out.cell 0
                        have y1 := Y53.out.cell 1
                        have y2 := Y53.out.cell 2
                        have q0 := Q53.out.cell 0
                        have q1 := Q53.out.cell 1
                        have k0 := K53.out.cell 0
                        have k1 := K53.out.cell 1
                        have k2 := K53.out.cell 2
                        have k3 := K53.out.cell 3
                        have f0 := J53.out.cell 0
                        have f1 := J53.out.cell 1
                        have f2 := J53.out.cell 2
                        simp only [List.getElem?_toArray, List.getElem?_cons_zero, List.getElem?_cons_succ] at x0 x1 x2 y0 y1 y2 q0 q1 k0 k1 k2 k3 f0 f1 f2
                        go_wp2_with fail
                        refine (rfind_any10 E53.out HL1.out HL64.out h ac as_ A d (fun w' ho' => HSO.out.below (ho'.from_ HB53.out EP.out.1 EP.out.2 HB53.out.size)) HF.out hnN hmN).mono ?_
                        rintro en w54 ⟨rfl, hc, ho⟩
                        rw [HFD.out]
                        unfold tu10
                        have HB54 := hid (ho.from_ HB53.out EP.out.1 EP.out.2 HB53.out.size)
                        have X54 := hid (ho.lies X53.out (lies_ne X53.out E53.out.box (by decide)) (lies_ne X53.out E53.out.row (by decide)))
                        have Y54 := hid (ho.lies Y53.out (lies_ne Y53.out E53.out.box (by decide)) (lies_ne Y53.out E53.out.row (by decide)))
                        have Q54 := hid (ho.lies Q53.out (lies_ne Q53.out E53.out.box (by decide)) (lies_ne Q53.out E53.out.row (by decide)))
                        have K54 := hid (ho.lies K53.out (lies_ne K53.out E53.out.box (by decide)) (lies_ne K53.out E53.out.row (by decide)))
                        have J54 := hid (ho.lies J53.out (lies_ne J53.out E53.out.box (by decide)) (lies_ne J53.out E53.out.row (by decide)))
                        have C54 := hid (C53.out.farR E53.out ho)
                        have E54 := hid hc
                        clear hc ho
                        clear x0 x1 x2 y0 y1 y2 q0 q1 k0 k1 k2 k3 f0 f1 f2
                        have x0 := X54.out.cell 0
                        have x1 := X54.out.cell 1
                        have x2 := X54.out.cell 2
                        have y0 := Y54.out.cell 0
                        have y1 := Y54.out.cell 1
                        have y2 := Y54.out.cell 2
                        have q0 := Q54.out.cell 0
                        have q1 := Q54.out.cell 1
                        have k0 := K54.out.cell 0
                        have k1 := K54.out.cell 1
                        have k2 := K54.out.cell 2
                        have k3 := K54.out.cell 3
                        have f0 := J54.out.cell 0
                        have f1 := J54.out.cell 1
                        have f2 := J54.out.cell 2
                        simp only [List.getElem?_toArray, List.getElem?_cons_zero, List.getElem?_cons_succ] at x0 x1 x2 y0 y1 y2 q0 q1 k0 k1 k2 k3 f0 f1 f2
                        go_wp2_with fail
                        go_roundw
                        case rel => exact ⟨j + 1, cb10 L h ac as_, _, _, by omega, by go_num, (cb10_len L h ac as_).trans HLEN.out, by show _ ≤ _; have := HNM.out; split <;> omega, by split <;> omega, by split <;> omega, HB54.out, X54.out, Y54.out, Q54.out, C54.out, E54.out⟩
                        case measure => simp only [intOf]; omega
                      · have ff0 := J52.out.frozen 0
                        have ff1 := J52.out.frozen 1
                        have ff2 := J52.out.frozen 2
                        go_upto_region 16 with fail
                        generalize hW : World.setCell _ _ _ = w53
                        obtain ⟨hX, hL, hBl⟩ := one_box10 hW J52.out
                        have J53 := hid hX
                        have X53 := hid (hL _ _ _ X52.out (by have := HJB.out; omega))
                        have Y53 := hid (hL _ _ _ Y52.out (by have := HJB.out; omega))
                        have Q53 := hid (hL _ _ _ Q52.out (by have := HJB.out; omega))
                        have K53 := hid (hL _ _ _ K52.out (by have := HJB.out; omega))
                        have C53 : Hid (Ca w53 p q L n m) := ⟨hL _ _ _ C52.out.box (lies_ne C52.out.box J52.out (by decide)), hL _ _ _ C52.out.row (lies_ne C52.out.row J52.out (by decide))⟩
                        have E53 : Hid (Cr w53 p3 q3 L n m) := ⟨hL _ _ _ E52.out.box (lies_ne E52.out.box J52.out (by decide)), hL _ _ _ E52.out.row (lies_ne E52.out.row J52.out (by decide))⟩
                        have HB53 := hid (hBl _ _ HB52.out (by have := HJB.out; omega))
                        clear hX hL hBl hW ff0 ff1 ff2
                        clear x0 x1 x2 y0 y1 y2 q0 q1 k0 k1 k2 k3 f0 f1 f2
                        have x0 := X53.out.cell 0
                        have x1 := X53.out.cell 1
                        have x2 := X53.out.cell 2
                        have y0 := Y53.out.cell 0
                        have y1 := Y53.out.cell 1
                        have y2 := Y53.out.cell 2
                        have q0 := Q53.out.cell 0
                        have q1 := Q53.out.cell 1
                        have k0 := K53.out.cell 0
                        have k1 := K53.out.cell 1
                        have k2 := K53.out.cell 2
                        have k3 := K53.out.cell 3
                        have f0 := J53.out.cell 0
                        have f1 := J53.out.cell 1
                        have f2 := J53.out.cell 2
                        simp only [List.getElem?_toArray, List.getElem?_cons_zero, List.getElem?_cons_succ] at x0 x1 x2 y0 y1 y2 q0 q1 k0 k1 k2 k3 f0 f1 f2
                        go_upto_region 16 with fail
                        go_wp2_with fail
                        refine (find_any10 C53.out HL1.out HL64.out g ac as_ G gd (fun w' ho' => HSG.out.below (ho'.from_ HB53.out CP.out.1 CP.out.2 HB53.out.size)) HFG.out hnN hmN).mono ?_
                        rintro en w54 ⟨rfl, hc, ho⟩
                        obtain ⟨lv, at_, en_, hlk⟩ : ∃ v a e, fd10 L g ac as_ = (v, a, e) := ⟨_, _, _, rfl⟩
                        have HFD := hid hlk
                        rw [hlk]
                        unfold tu10
                        clear hlk
                        have HB54 := hid (ho.from_ HB53.out CP.out.1 CP.out.2 HB53.out.size)
                        have X54 := hid (ho.lies X53.out (lies_ne X53.out C53.out.box (by decide)) (lies_ne X53.out C53.out.row (by decide)))
                        have Y54 := hid (ho.lies Y53.out (lies_ne Y53.out C53.out.box (by decide)) (lies_ne Y53.out C53.out.row (by decide)))
                        have Q54 := hid (ho.lies Q53.out (lies_ne Q53.out C53.out.box (by decide)) (lies_ne Q53.out C53.out.row (by decide)))
                        have K54 := hid (ho.lies K53.out (lies_ne K53.out C53.out.box (by decide)) (lies_ne K53.out C53.out.row (by decide)))
                        have J54 := hid (ho.lies J53.out (lies_ne J53.out C53.out.box (by decide)) (lies_ne J53.out C53.out.row (by decide)))
                        have C54 := hid hc
                        have E54 := hid (E53.out.farP C53.out ho)
                        clear hc ho
                        clear x0 x1 x2 y0 y1 y2 q0 q1 k0 k1 k2 k3 f0 f1 f2
                        have x0 := X54.out.cell 0
                        have x1 := X54.out.cell 1
                        have x2 := X54.out.cell 2
                        have y0 := Y54.out.cell 0
                        have y1 := Y54.out.cell 1
                        have y2 := Y54.out.cell 2
                        have q0 := Q54.out.cell 0
                        have q1 := Q54.out.cell 1
                        have k0 := K54.out.cell 0
                        have k1 := K54.out.cell 1
                        have k2 := K54.out.cell 2
                        have k3 := K54.out.cell 3
                        have f0 := J54.out.cell 0
                        have f1 := J54.out.cell 1
                        have f2 := J54.out.cell 2
                        simp only [List.getElem?_toArray, List.getElem?_cons_zero, List.getElem?_cons_succ] at x0 x1 x2 y0 y1 y2 q0 q1 k0 k1 k2 k3 f0 f1 f2
                        go_wp2_with fail
                        refine (rfind_any10 E54.out HL1.out HL64.out g ac as_ G gd (fun w' ho' => HSG.out.below (ho'.from_ HB54.out EP.out.1 EP.out.2 HB54.out.size)) HFG.out hnN hmN).mono ?_
                        rintro en w55 ⟨rfl, hc, ho⟩
                        rw [HFD.out]
                        unfold tu10
                        have HB55 := hid (ho.from_ HB54.out EP.out.1 EP.out.2 HB54.out.size)
                        have X55 := hid (ho.lies X54.out (lies_ne X54.out E54.out.box (by decide)) (lies_ne X54.out E54.out.row (by decide)))
                        have Y55 := hid (ho.lies Y54.out (lies_ne Y54.out E54.out.box (by decide)) (lies_ne Y54.out E54.out.row (by decide)))
                        have Q55 := hid (ho.lies Q54.out (lies_ne Q54.out E54.out.box (by decide)) (lies_ne Q54.out E54.out.row (by decide)))
                        have K55 := hid (ho.lies K54.out (lies_ne K54.out E54.out.box (by decide)) (lies_ne K54.out E54.out.row (by decide)))
                        have J55 := hid (ho.lies J54.out (lies_ne J54.out E54.out.box (by decide)) (lies_ne J54.out E54.out.row (by decide)))
                        have C55 := hid (C54.out.farR E54.out ho)
                        have E55 := hid hc
                        clear hc ho
                        clear x0 x1 x2 y0 y1 y2 q0 q1 k0 k1 k2 k3 f0 f1 f2
                        have x0 := X55.out.cell 0
                        have x1 := X55.out.cell 1
                        have x2 := X55.out.cell 2
                        have y0 := Y55.out.cell 0
                        have y1 := Y55.out.cell 1
                        have y2 := Y55.out.cell 2
                        have q0 := Q55.out.cell 0
                        have q1 := Q55.out.cell 1
                        have k0 := K55.out.cell 0
                        have k1 := K55.out.cell 1
                        have k2 := K55.out.cell 2
                        have k3 := K55.out.cell 3
                        have f0 := J55.out.cell 0
                        have f1 := J55.out.cell 1
                        have f2 := J55.out.cell 2
                        simp only [List.getElem?_toArray, List.getElem?_cons_zero, List.getElem?_cons_succ] at x0 x1 x2 y0 y1 y2 q0 q1 k0 k1 k2 k3 f0 f1 f2
                        go_wp2_with fail
                        go_roundw
                        case rel => exact ⟨j + 1, cb10 L g ac as_, _, _, by omega, by go_num, (cb10_len L g ac as_).trans HLEN.out, by show _ ≤ _; have := HNM.out; split <;> omega, by split <;> omega, by split <;> omega, HB55.out, X55.out, Y55.out, Q55.out, C55.out, E55.out⟩
                        case measure => simp only [intOf]; omega
                    · go_wp2_with fail
                      refine (flush_any10 C51.out HL1.out).mono ?_
                      rintro en w52 ⟨rfl, hc, ho⟩
                      rw [HLEN.out] at hc
                      have HB52 := hid (ho.from_ HB51.out CP.out.1 CP.out.2 HB51.out.size)
                      have X52 := hid (ho.lies X51.out (lies_ne X51.out C51.out.box (by decide)) (lies_ne X51.out C51.out.row (by decide)))
                      have Y52 := hid (ho.lies Y51.out (lies_ne Y51.out C51.out.box (by decide)) (lies_ne Y51.out C51.out.row (by decide)))
                      have Q52 := hid (ho.lies Q51.out (lies_ne Q51.out C51.out.box (by decide)) (lies_ne Q51.out C51.out.row (by decide)))
                      have C52 := hid hc
                      have E52 := hid (E51.out.farP C51.out ho)
                      clear hc ho
                      clear x0 x1 x2 y0 y1 y2 q0 q1 k0 k1 k2 k3
                      have x0 := X52.out.cell 0
                      have x1 := X52.out.cell 1
                      have x2 := X52.out.cell 2
                      have y0 := Y52.out.cell 0
                      have y1 := Y52.out.cell 1
                      have y2 := Y52.out.cell 2
                      have q0 := Q52.out.cell 0
                      have q1 := Q52.out.cell 1
                      simp only [List.getElem?_toArray, List.getElem?_cons_zero, List.getElem?_cons_succ] at x0 x1 x2 y0 y1 y2 q0 q1
                      go_wp2_with fail
                      refine (rflush_any10 E52.out HL64.out).mono ?_
                      rintro en w53 ⟨rfl, hc, ho⟩
                      rw [HLEN.out] at hc
                      have HB53 := hid (ho.from_ HB52.out EP.out.1 EP.out.2 HB52.out.size)
                      have X53 := hid (ho.lies X52.out (lies_ne X52.out E52.out.box (by decide)) (lies_ne X52.out E52.out.row (by decide)))
                      have Y53 := hid (ho.lies Y52.out (lies_ne Y52.out E52.out.box (by decide)) (lies_ne Y52.out E52.out.row (by decide)))
                      have Q53 := hid (ho.lies Q52.out (lies_ne Q52.out E52.out.box (by decide)) (lies_ne Q52.out E52.out.row (by decide)))
                      have C53 := hid (C52.out.farR E52.out ho)
                      have E53 := hid hc
                      clear hc ho
                      clear x0 x1 x2 y0 y1 y2 q0 q1
                      have x0 := X53.out.cell 0
                      have x1 := X53.out.cell 1
                      have x2 := X53.out.cell 2
                      have y0 := Y53.out.cell 0
                      have y1 := Y53.out.cell 1
                      have y2 := Y53.out.cell 2
                      have q0 := Q53.out.cell 0
                      have q1 := Q53.out.cell 1
                      simp only [List.getElem?_toArray, List.getElem?_cons_zero, List.getElem?_cons_succ] at x0 x1 x2 y0 y1 y2 q0 q1
                      go_wp2_with fail
                      go_roundw
                      case rel => exact ⟨j + 1, nw10 k, n, m, by omega, by go_num, nw10_len k, by show _ ≤ _; have := HNM.out; omega, by omega, by omega, HB53.out, X53.out, Y53.out, Q53.out, C53.out, E53.out⟩
                      case measure => simp only [intOf]; omega
                  · have hjI : ¬ (j : Int) < (l.length : Int) := by omega
                    have x0 := X50.out.cell 0
                    have x1 := X50.out.cell 1
                    have x2 := X50.out.cell 2
                    have y0 := Y50.out.cell 0
                    have y1 := Y50.out.cell 1
                    have y2 := Y50.out.cell 2
                    have q0 := Q50.out.cell 0
                    have q1 := Q50.out.cell 1
                    simp only [List.getElem?_toArray, List.getElem?_cons_zero, List.getElem?_cons_succ] at x0 x1 x2 y0 y1 y2 q0 q1
                    go_wp2_with fail
                    refine (hits_any C50.out HL1.out).mono ?_
                    rintro en w51 ⟨rfl, hb⟩
                    have HB51 := hid (then_w HB50.out hb)
                    have X51 := hid (X50.out.later hb)
                    have Y51 := hid (Y50.out.later hb)
                    have Q51 := hid (Q50.out.later hb)
                    have C51 := hid (C50.out.later hb)
                    have E51 := hid (E50.out.later hb)
                    clear hb
                    clear x0 x1 x2 y0 y1 y2 q0 q1
                    have x0 := X51.out.cell 0
                    have x1 := X51.out.cell 1
                    have x2 := X51.out.cell 2
                    have y0 := Y51.out.cell 0
                    have y1 := Y51.out.cell 1
                    have y2 := Y51.out.cell 2
                    have q0 := Q51.out.cell 0
                    have q1 := Q51.out.cell 1
                    simp only [List.getElem?_toArray, List.getElem?_cons_zero, List.getElem?_cons_succ] at x0 x1 x2 y0 y1 y2 q0 q1
                    go_wp2_with fail
                    refine (fixed10_any _).mono ?_
                    rintro en w52 ⟨rfl, hb⟩
                    have HB52 := hid (then_w HB51.out hb)
                    have X52 := hid (X51.out.later hb)
                    have Y52 := hid (Y51.out.later hb)
                    have Q52 := hid (Q51.out.later hb)
                    have C52 := hid (C51.out.later hb)
                    have E52 := hid (E51.out.later hb)
                    clear hb
                    clear x0 x1 x2 y0 y1 y2 q0 q1
                    have e1 := E52.out.box.cell 1
                    have e2 := E52.out.box.cell 2
                    simp only [List.getElem?_toArray, List.getElem?_cons_zero, List.getElem?_cons_succ] at e1 e2
                    go_wp2_with fail
                    go_ret
                    exact ⟨by first | rfl | simp, HB52.out⟩
end Go.Proofs.Ytcahdhocilmoeaa
