/- CacheCounts walked: whatever heap, size and askings, it answers true. -/
import Derived.Test.YtcahdhocilmoeaaCJ10
import Derived.Test.YtcahdhocilmoeaaOA10
import Derived.Test.YtcahdhocilmoeaaN
namespace Go.Proofs.Ytcahdhocilmoeaa
open Go.RowKit
set_option maxRecDepth 100000
set_option maxHeartbeats 2000000 in
theorem counts10_any (h : Hp) (z : Int) (l : List Ak) (A : Option Addr) (d : Nat) (B : Option Addr) (e : Nat) (w : World) (hs : ObsR w A h.objs) (fit : h.Fit) (hk : AksR w B l) (_fl : l.length ≤ 9223372036854775807) :
    Calls Try.prog 11 #[.agg #[.slice A h.objs.length d, .int .i64 h.cap, .int .i64 h.last], .agg #[.int .i64 z, .slice B l.length e]] w fun en w' => en = .returned (.bool true) ∧ Below w.heap.size w w' := by
  obtain ⟨w0, hw0⟩ : ∃ u, u = (w.alloc (.cells #[Value.slice A h.objs.length d, Value.int .i64 h.cap, Value.int .i64 h.last] 24)).alloc (.cells #[.int .i64 z, .slice B l.length e] 50) := ⟨_, rfl⟩
  have HB0 : Hid (Below w.heap.size w w0) := by show Below _ _ _; rw [hw0]; exact (((below_alloc w _)).alloc (by simp <;> omega) _)
  have X0 : Hid (Lies w0 (w.heap.size) 24 #[Value.slice A h.objs.length d, Value.int .i64 h.cap, Value.int .i64 h.last]) := by
    show Lies _ _ _ _
    rw [hw0]
    have := (Lies.new w 24 #[Value.slice A h.objs.length d, Value.int .i64 h.cap, Value.int .i64 h.last]).alloc (.cells #[.int .i64 z, .slice B l.length e] 50)
    simpa using this
  have Q0 : Hid (Lies w0 (w.heap.size + 1) 50 #[.int .i64 z, .slice B l.length e]) := by
    show Lies _ _ _ _
    rw [hw0]
    have := (Lies.new (w.alloc (.cells #[Value.slice A h.objs.length d, Value.int .i64 h.cap, Value.int .i64 h.last] 24)) 50 #[.int .i64 z, .slice B l.length e])
    simpa using this
  have O0 := hid (hs.below HB0.out)
  have HSO := hid hs
  have HAK := hid hk
  have HF := hid fit
  clear hs fit hk
  go_enter Try.func11, Try.ntmps11
  go_upto_region 1 with fail
  rw [← hw0]
  clear hw0
  have x0 := X0.out.cell 0
  have x1 := X0.out.cell 1
  have x2 := X0.out.cell 2
  have q0 := Q0.out.cell 0
  have q1 := Q0.out.cell 1
  simp only [List.getElem?_toArray, List.getElem?_cons_zero, List.getElem?_cons_succ] at x0 x1 x2 q0 q1
  go_wp2_with fail
  refine (fixed10_any _).mono ?_
  rintro e w1 ⟨rfl, hb⟩
  have HB1 := hid (HB0.out.trans (hb.mono HB0.out.size))
  have X1 := hid (X0.out.later hb)
  have Q1 := hid (Q0.out.later hb)
  have O1 := hid (O0.out.below hb)
  clear x0 x1 x2 q0 q1
  clear hb
  have x0 := X1.out.cell 0
  have x1 := X1.out.cell 1
  have x2 := X1.out.cell 2
  have q0 := Q1.out.cell 0
  have q1 := Q1.out.cell 1
  simp only [List.getElem?_toArray, List.getElem?_cons_zero, List.getElem?_cons_succ] at x0 x1 x2 q0 q1
  go_wp2_with fail
  refine (small_ok h A d _ O1.out HF.out).mono ?_
  rintro e w2 ⟨sm, rfl, hb⟩
  have HB2 := hid (HB1.out.trans (hb.mono HB1.out.size))
  have X2 := hid (X1.out.later hb)
  have Q2 := hid (Q1.out.later hb)
  have O2 := hid (O1.out.below hb)
  clear x0 x1 x2 q0 q1
  clear hb
  have x0 := X2.out.cell 0
  have x1 := X2.out.cell 1
  have x2 := X2.out.cell 2
  have q0 := Q2.out.cell 0
  have q1 := Q2.out.cell 1
  simp only [List.getElem?_toArray, List.getElem?_cons_zero, List.getElem?_cons_succ] at x0 x1 x2 q0 q1
  cases sm
  · go_wp2_with fail
    refine (fixed10_any _).mono ?_
    rintro e w3 ⟨rfl, hb⟩
    have HB3 := hid (HB2.out.trans (hb.mono HB2.out.size))
    have X3 := hid (X2.out.later hb)
    have Q3 := hid (Q2.out.later hb)
    have O3 := hid (O2.out.below hb)
    clear x0 x1 x2 q0 q1
    clear hb
    have x0 := X3.out.cell 0
    have x1 := X3.out.cell 1
    have x2 := X3.out.cell 2
    have q0 := Q3.out.cell 0
    have q1 := Q3.out.cell 1
    simp only [List.getElem?_toArray, List.getElem?_cons_zero, List.getElem?_cons_succ] at x0 x1 x2 q0 q1
    go_wp2_with fail
    go_ret
    exact ⟨rfl, HB3.out⟩
  · by_cases c1 : 40 < h.objs.length
    · go_wp2_with fail
      refine (fixed10_any _).mono ?_
      rintro e w3 ⟨rfl, hb⟩
      have HB3 := hid (HB2.out.trans (hb.mono HB2.out.size))
      have X3 := hid (X2.out.later hb)
      have Q3 := hid (Q2.out.later hb)
      have O3 := hid (O2.out.below hb)
      clear x0 x1 x2 q0 q1
      clear hb
      have x0 := X3.out.cell 0
      have x1 := X3.out.cell 1
      have x2 := X3.out.cell 2
      have q0 := Q3.out.cell 0
      have q1 := Q3.out.cell 1
      simp only [List.getElem?_toArray, List.getElem?_cons_zero, List.getElem?_cons_succ] at x0 x1 x2 q0 q1
      go_wp2_with fail
      go_ret
      exact ⟨rfl, HB3.out⟩
    · by_cases c2 : 30 < l.length
      · go_wp2_with fail
        refine (fixed10_any _).mono ?_
        rintro e w3 ⟨rfl, hb⟩
        have HB3 := hid (HB2.out.trans (hb.mono HB2.out.size))
        have X3 := hid (X2.out.later hb)
        have Q3 := hid (Q2.out.later hb)
        have O3 := hid (O2.out.below hb)
        clear x0 x1 x2 q0 q1
        clear hb
        have x0 := X3.out.cell 0
        have x1 := X3.out.cell 1
        have x2 := X3.out.cell 2
        have q0 := Q3.out.cell 0
        have q1 := Q3.out.cell 1
        simp only [List.getElem?_toArray, List.getElem?_cons_zero, List.getElem?_cons_succ] at x0 x1 x2 q0 q1
        go_wp2_with fail
        go_ret
        exact ⟨rfl, HB3.out⟩
      · by_cases c3 : z < 1
        · go_wp2_with fail
          refine (fixed10_any _).mono ?_
          rintro e w3 ⟨rfl, hb⟩
          have HB3 := hid (HB2.out.trans (hb.mono HB2.out.size))
          have X3 := hid (X2.out.later hb)
          have Q3 := hid (Q2.out.later hb)
          have O3 := hid (O2.out.below hb)
          clear x0 x1 x2 q0 q1
          clear hb
          have x0 := X3.out.cell 0
          have x1 := X3.out.cell 1
          have x2 := X3.out.cell 2
          have q0 := Q3.out.cell 0
          have q1 := Q3.out.cell 1
          simp only [List.getElem?_toArray, List.getElem?_cons_zero, List.getElem?_cons_succ] at x0 x1 x2 q0 q1
          go_wp2_with fail
          go_ret
          exact ⟨rfl, HB3.out⟩
        · by_cases c4 : 64 < z
          · go_wp2_with fail
            refine (fixed10_any _).mono ?_
            rintro e w3 ⟨rfl, hb⟩
            have HB3 := hid (HB2.out.trans (hb.mono HB2.out.size))
            have X3 := hid (X2.out.later hb)
            have Q3 := hid (Q2.out.later hb)
            have O3 := hid (O2.out.below hb)
            clear x0 x1 x2 q0 q1
            clear hb
            have x0 := X3.out.cell 0
            have x1 := X3.out.cell 1
            have x2 := X3.out.cell 2
            have q0 := Q3.out.cell 0
            have q1 := Q3.out.cell 1
            simp only [List.getElem?_toArray, List.getElem?_cons_zero, List.getElem?_cons_succ] at x0 x1 x2 q0 q1
            go_wp2_with fail
            go_ret
            exact ⟨rfl, HB3.out⟩
          · obtain ⟨k, rfl⟩ : ∃ k : Nat, z = k := ⟨z.toNat, by omega⟩
            have hk1 : 1 ≤ k := by omega
            have hk64 : k ≤ 64 := by omega
            go_wp2_with fail
            refine (new_any10 k hk1 hk64 _).mono ?_
            rintro en w3 ⟨p, q, rfl, hc, hp, hq, hb⟩
            have CP : Hid (w.heap.size ≤ p ∧ w.heap.size ≤ q) := ⟨Nat.le_trans HB2.out.size hp, Nat.le_trans HB2.out.size hq⟩
            have C3 := hid hc
            have HB3 := hid (then_w HB2.out hb)
            have X3 := hid (X2.out.later hb)
            have Q3 := hid (Q2.out.later hb)
            clear hb
            clear x0 x1 x2 q0 q1
            clear hc hp hq
            have x0 := X3.out.cell 0
            have x1 := X3.out.cell 1
            have x2 := X3.out.cell 2
            have q0 := Q3.out.cell 0
            have q1 := Q3.out.cell 1
            simp only [List.getElem?_toArray, List.getElem?_cons_zero, List.getElem?_cons_succ] at x0 x1 x2 q0 q1
            go_wp2_with fail
            clear x0 x1 x2 q0 q1
            go_loopw [6, 7] (fun nv i wr => ∃ (j : Nat) (L : List En) (n m : Int), j ≤ l.length ∧ i = .int .i64 j ∧ nv = .int .i64 (2 * (j : Int)) ∧ Hid (L.length = k) ∧ Hid (So10 h L) ∧ Hid (n + m = 2 * j) ∧ 0 ≤ n ∧ 0 ≤ m ∧ Below w.heap.size w wr ∧ Lies wr w.heap.size 24 #[Value.slice A h.objs.length d, Value.int .i64 h.cap, Value.int .i64 h.last] ∧ Lies wr (w.heap.size + 1) 50 #[.int .i64 k, .slice B l.length e] ∧ Ca wr p q L n m) (fun _ i _ => l.length + 1 - (intOf i).toNat)
            case atStart => exact ⟨0, nw10 k, 0, 0, by omega, rfl, rfl, nw10_len k, so_new10 h k, by show (0 : Int) + 0 = _; simp, by omega, by omega, HB3.out, X3.out, Q3.out, C3.out⟩
            case round =>
              rename World => w50
              obtain ⟨j, L, n, m, hjl, rfl, rfl, HLEN, HSO10, HNM, hn0, hm0, hb, hx, hq, hc⟩ := hrel
              have HB50 := hid hb
              have X50 := hid hx
              have Q50 := hid hq
              have C50 := hid hc
              have HL1 : Hid (1 ≤ L.length) := by show _ ≤ _; rw [HLEN.out]; exact hk1
              have HL64 : Hid (L.length ≤ 64) := by show _ ≤ _; rw [HLEN.out]; exact hk64
              clear hb hx hq hc
              have x0 := X50.out.cell 0
              have x1 := X50.out.cell 1
              have x2 := X50.out.cell 2
              have q0 := Q50.out.cell 0
              have q1 := Q50.out.cell 1
              simp only [List.getElem?_toArray, List.getElem?_cons_zero, List.getElem?_cons_succ] at x0 x1 x2 q0 q1
              by_cases hj : j < l.length
              · obtain ⟨b, off, rfl, hlt, hcell⟩ := HAK.out (by omega)
                have ha := hcell j _ (List.getElem?_eq_getElem (show j < l.length from hj))
                obtain ⟨a, hal⟩ : ∃ a, a = l[j]'hj := ⟨_, rfl⟩
                rw [← hal] at ha
                obtain ⟨ac, as_, af, ao⟩ := a
                simp only at ha
                have HA := hid ha
                have HBL := hid hlt
                clear ha hal hcell hlt
                have hjI : (j : Int) < (l.length : Int) := by omega
                have hj0 : (0 : Int) ≤ (j : Int) := by omega
                have hj30 : (j : Int) ≤ 30 := by omega
                have hnN : 0 ≤ n ∧ n ≤ 1000 := by have := HNM.out; omega
                have hmN : 0 ≤ m ∧ m ≤ 1000 := by have := HNM.out; omega
                go_upto_region 10 with fail
                have a0 := cell_later HB50.out HA.out.1
                have a1 := cell_later HB50.out HA.out.2.1
                have HD := hid ((Below.refl w50.heap.size w50).drew)
                have CD := hid (C50.out.later HD.out)
                refine wp_region_held_drew (S := (fun w' => w'.cell? ⟨w.heap.size, 0, none⟩ = some (.slice A h.objs.length d) ∧ w'.cell? ⟨w.heap.size, 1, none⟩ = some (.int .i64 h.cap) ∧ w'.cell? ⟨w.heap.size, 2, none⟩ = some (.int .i64 h.last) ∧ w'.cell? ⟨w.heap.size + 1, 1, none⟩ = some (.slice (some ⟨b, off, none⟩) l.length e) ∧ w'.cell? ⟨b, off + j * 4, none⟩ = some (.int .i64 ac) ∧ w'.cell? ⟨b, off + j * 4 + 1, none⟩ = some (.int .i64 as_))) (by kernel_rfl) ?_ (fun hH0 => ?_)
                · exact ⟨x0, x1, x2, q1, a0, a1⟩
                refine wpAnyH_take (i := 0) (oi := { dst := some 58, op := Go.Op.move (Go.Operand.tmp 5), type := 51, pos := "law.go:117", after := #[], guard := none }) (v := ?vv1) rfl (by kernel_rfl) (by kernel_rfl) (by kernel_rfl) (fun _ _ _ h => h) (Or.inl ⟨by rfl, ?hy1⟩) (by assumption) ?rr1
                case hy1 => intro w hSw; (try dsimp only at hSw); go_simp; all_goals with_reducible rfl
                try simp only [Act.put, List.setIfInBounds_toArray, List.set_cons_zero, List.set_cons_succ]
                refine wpAnyH_take (i := 1) (oi := { dst := some 59, op := Go.Op.load 24 (Go.Operand.tmp 2), type := 24, pos := "law.go:117", after := #[], guard := none }) (v := ?vv2) rfl (by kernel_rfl) (by kernel_rfl) (by kernel_rfl) (fun _ _ _ h => h) (Or.inl ⟨by rfl, ?hy2⟩) (by assumption) ?rr2
                case hy2 => intro w hSw; (try dsimp only at hSw); go_simp; all_goals with_reducible rfl
                try simp only [Act.put, List.setIfInBounds_toArray, List.set_cons_zero, List.set_cons_succ]
                refine wpAnyH_take (i := 2) (oi := { dst := some 60, op := Go.Op.fieldAddr 50 (Go.Operand.tmp 3) 1, type := 0, pos := "law.go:117", after := #[], guard := none }) (v := ?vv3) rfl (by kernel_rfl) (by kernel_rfl) (by kernel_rfl) (fun _ _ _ h => h) (Or.inl ⟨by rfl, ?hy3⟩) (by assumption) ?rr3
                case hy3 => intro w hSw; (try dsimp only at hSw); go_simp; all_goals with_reducible rfl
                try simp only [Act.put, List.setIfInBounds_toArray, List.set_cons_zero, List.set_cons_succ]
                refine wpAnyH_take (i := 3) (oi := { dst := some 61, op := Go.Op.load 48 (Go.Operand.tmp 60), type := 48, pos := "law.go:117", after := #[{ on := 2, ground := Go.Ground.data }], guard := none }) (v := ?vv4) rfl (by kernel_rfl) (by kernel_rfl) (by kernel_rfl) (fun _ _ _ h => h) (Or.inl ⟨by rfl, ?hy4⟩) (by assumption) ?rr4
                case hy4 => intro w hSw; (try dsimp only at hSw); go_simp; all_goals with_reducible rfl
                try simp only [Act.put, List.setIfInBounds_toArray, List.set_cons_zero, List.set_cons_succ]
                refine wpAnyH_take (i := 4) (oi := { dst := some 62, op := Go.Op.move (Go.Operand.tmp 7), type := 3, pos := "law.go:117", after := #[], guard := none }) (v := ?vv5) rfl (by kernel_rfl) (by kernel_rfl) (by kernel_rfl) (fun _ _ _ h => h) (Or.inl ⟨by rfl, ?hy5⟩) (by assumption) ?rr5
                case hy5 => intro w hSw; (try dsimp only at hSw); go_simp; all_goals with_reducible rfl
                try simp only [Act.put, List.setIfInBounds_toArray, List.set_cons_zero, List.set_cons_succ]
                refine wpAnyH_take (i := 5) (oi := { dst := some 63, op := Go.Op.indexAddr 48 (Go.Operand.tmp 61) (Go.Operand.tmp 62), type := 0, pos := "law.go:117", after := #[{ on := 3, ground := Go.Ground.data }, { on := 4, ground := Go.Ground.data }], guard := none }) (v := ?vv6) rfl (by kernel_rfl) (by kernel_rfl) (by kernel_rfl) (fun _ _ _ h => h) (Or.inl ⟨by rfl, ?hy6⟩) (by assumption) ?rr6
                case hy6 => intro w hSw; (try dsimp only at hSw); go_simp; all_goals with_reducible rfl
                try simp only [Act.put, List.setIfInBounds_toArray, List.set_cons_zero, List.set_cons_succ]
                refine wpAnyH_take (i := 6) (oi := { dst := some 64, op := Go.Op.fieldAddr 56 (Go.Operand.tmp 63) 0, type := 0, pos := "law.go:117", after := #[{ on := 5, ground := Go.Ground.data }], guard := none }) (v := ?vv7) rfl (by kernel_rfl) (by kernel_rfl) (by kernel_rfl) (fun _ _ _ h => h) (Or.inl ⟨by rfl, ?hy7⟩) (by assumption) ?rr7
                case hy7 => intro w hSw; (try dsimp only at hSw); go_simp; all_goals with_reducible rfl
                try simp only [Act.put, List.setIfInBounds_toArray, List.set_cons_zero, List.set_cons_succ]
                refine wpAnyH_take (i := 7) (oi := { dst := some 65, op := Go.Op.load 3 (Go.Operand.tmp 64), type := 3, pos := "law.go:117", after := #[{ on := 6, ground := Go.Ground.data }], guard := none }) (v := ?vv8) rfl (by kernel_rfl) (by kernel_rfl) (by kernel_rfl) (fun _ _ _ h => h) (Or.inl ⟨by rfl, ?hy8⟩) (by assumption) ?rr8
                case hy8 => intro w hSw; (try dsimp only at hSw); go_simp; all_goals with_reducible rfl
                try simp only [Act.put, List.setIfInBounds_toArray, List.set_cons_zero, List.set_cons_succ]
                refine wpAnyH_take (i := 8) (oi := { dst := some 66, op := Go.Op.fieldAddr 50 (Go.Operand.tmp 3) 1, type := 0, pos := "law.go:117", after := #[], guard := none }) (v := ?vv9) rfl (by kernel_rfl) (by kernel_rfl) (by kernel_rfl) (fun _ _ _ h => h) (Or.inl ⟨by rfl, ?hy9⟩) (by assumption) ?rr9
                case hy9 => intro w hSw; (try dsimp only at hSw); go_simp; all_goals with_reducible rfl
                try simp only [Act.put, List.setIfInBounds_toArray, List.set_cons_zero, List.set_cons_succ]
                refine wpAnyH_take (i := 9) (oi := { dst := some 67, op := Go.Op.load 48 (Go.Operand.tmp 66), type := 48, pos := "law.go:117", after := #[{ on := 8, ground := Go.Ground.data }], guard := none }) (v := ?vv10) rfl (by kernel_rfl) (by kernel_rfl) (by kernel_rfl) (fun _ _ _ h => h) (Or.inl ⟨by rfl, ?hy10⟩) (by assumption) ?rr10
                case hy10 => intro w hSw; (try dsimp only at hSw); go_simp; all_goals with_reducible rfl
                try simp only [Act.put, List.setIfInBounds_toArray, List.set_cons_zero, List.set_cons_succ]
                refine wpAnyH_take (i := 10) (oi := { dst := some 68, op := Go.Op.move (Go.Operand.tmp 7), type := 3, pos := "law.go:117", after := #[], guard := none }) (v := ?vv11) rfl (by kernel_rfl) (by kernel_rfl) (by kernel_rfl) (fun _ _ _ h => h) (Or.inl ⟨by rfl, ?hy11⟩) (by assumption) ?rr11
                case hy11 => intro w hSw; (try dsimp only at hSw); go_simp; all_goals with_reducible rfl
                try simp only [Act.put, List.setIfInBounds_toArray, List.set_cons_zero, List.set_cons_succ]
                refine wpAnyH_take (i := 11) (oi := { dst := some 69, op := Go.Op.indexAddr 48 (Go.Operand.tmp 67) (Go.Operand.tmp 68), type := 0, pos := "law.go:117", after := #[{ on := 9, ground := Go.Ground.data }, { on := 10, ground := Go.Ground.data }], guard := none }) (v := ?vv12) rfl (by kernel_rfl) (by kernel_rfl) (by kernel_rfl) (fun _ _ _ h => h) (Or.inl ⟨by rfl, ?hy12⟩) (by assumption) ?rr12
                case hy12 => intro w hSw; (try dsimp only at hSw); go_simp; all_goals with_reducible rfl
                try simp only [Act.put, List.setIfInBounds_toArray, List.set_cons_zero, List.set_cons_succ]
                refine wpAnyH_take (i := 12) (oi := { dst := some 70, op := Go.Op.fieldAddr 56 (Go.Operand.tmp 69) 1, type := 0, pos := "law.go:117", after := #[{ on := 11, ground := Go.Ground.data }], guard := none }) (v := ?vv13) rfl (by kernel_rfl) (by kernel_rfl) (by kernel_rfl) (fun _ _ _ h => h) (Or.inl ⟨by rfl, ?hy13⟩) (by assumption) ?rr13
                case hy13 => intro w hSw; (try dsimp only at hSw); go_simp; all_goals with_reducible rfl
                try simp only [Act.put, List.setIfInBounds_toArray, List.set_cons_zero, List.set_cons_succ]
                refine wpAnyH_take (i := 13) (oi := { dst := some 71, op := Go.Op.load 3 (Go.Operand.tmp 70), type := 3, pos := "law.go:117", after := #[{ on := 12, ground := Go.Ground.data }], guard := none }) (v := ?vv14) rfl (by kernel_rfl) (by kernel_rfl) (by kernel_rfl) (fun _ _ _ h => h) (Or.inl ⟨by rfl, ?hy14⟩) (by assumption) ?rr14
                case hy14 => intro w hSw; (try dsimp only at hSw); go_simp; all_goals with_reducible rfl
                try simp only [Act.put, List.setIfInBounds_toArray, List.set_cons_zero, List.set_cons_succ]
                refine wpAnyH_ready (rs := [14]) (by kernel_rfl) (by simp) ?_
                refine AllReadyH.cons (i := 14) (o := { dst := some 72, op := Go.Op.call { callee := Go.Callee.value (Go.Operand.func 41), args := #[Go.Operand.tmp 58, Go.Operand.tmp 59, Go.Operand.tmp 65, Go.Operand.tmp 71], argTypes := #[51, 24, 3, 3] }, type := 57, pos := "law.go:117", after := #[{ on := 0, ground := Go.Ground.data }, { on := 1, ground := Go.Ground.data }, { on := 7, ground := Go.Ground.data }, { on := 13, ground := Go.Ground.data }], guard := none }) rfl (fun K hK => ?_) AllReadyH.nil
                go_simp
                go_at_call 41
                refine (find_any10 CD.out HL1.out HL64.out h ac as_ A d (fun w' ho' => HSO.out.below (((only2_below HD.out).trans ho').from_ HB50.out CP.out.1 CP.out.2 HB50.out.size)) HF.out hnN hmN).mono ?_
                rintro en w51 hfd
                obtain ⟨n1, m1, rfl, hc, ho, hso1, hl1, hs1, hp1, hq1⟩ := hfd.so HSO10.out HL1.out
                have HLK : Hid ((cb10 L h ac as_).length = k) := by show _ = _; rw [hl1]; exact HLEN.out
                have HAG : Hid ((lk9 h ac as_).2.2 = 0 → hit10 (cb10 L h ac as_) ac as_ = true) := hit_again10 HL1.out
                obtain ⟨L1, hL1⟩ : ∃ L1, L1 = cb10 L h ac as_ := ⟨_, rfl⟩
                rw [← hL1] at hc hso1 HLK HAG
                have HSO1 := hid hso1
                have HNO : Hid ((lk9 h ac as_).2.2 ≠ 0 → hit10 L1 ac as_ = false) := no_hit10 hso1 (by rw [HLK.out]; exact hk1)
                have HS1 : Hid (n1 + m1 = 2 * (j : Int) + 1) := by show _ = _; have := HNM.out; omega
                have hn1N : 0 ≤ n1 ∧ n1 ≤ 1000 := by have := HS1.out; omega
                have hm1N : 0 ≤ m1 ∧ m1 ≤ 1000 := by have := HS1.out; omega
                obtain ⟨v, at_, en_, hlk⟩ : ∃ v a e, lk9 h ac as_ = (v, a, e) := ⟨_, _, _, rfl⟩
                have HSO2 := hid (so_cb10 hso1 ac as_)
                rw [hlk] at HAG HNO ⊢
                clear hL1 hso1 hl1 hs1 hlk
                unfold tu10
                refine hK.out _ _ ?_ (fun hH1 => ?_)
                · exact ⟨ho.cell (lies_ne X50.out C50.out.box (by decide)) (lies_ne X50.out C50.out.row (by decide)) hH0.1, ho.cell (lies_ne X50.out C50.out.box (by decide)) (lies_ne X50.out C50.out.row (by decide)) hH0.2.1, ho.cell (lies_ne X50.out C50.out.box (by decide)) (lies_ne X50.out C50.out.row (by decide)) hH0.2.2.1, ho.cell (lies_ne Q50.out C50.out.box (by decide)) (lies_ne Q50.out C50.out.row (by decide)) hH0.2.2.2.1, ho.cell (Nat.ne_of_lt (Nat.lt_of_lt_of_le HBL.out CP.out.1)) (Nat.ne_of_lt (Nat.lt_of_lt_of_le HBL.out CP.out.2)) hH0.2.2.2.2.1, ho.cell (Nat.ne_of_lt (Nat.lt_of_lt_of_le HBL.out CP.out.1)) (Nat.ne_of_lt (Nat.lt_of_lt_of_le HBL.out CP.out.2)) hH0.2.2.2.2.2⟩
                clear hK K
                try simp only []
                refine wpAnyH_take (i := 15) (oi := { dst := some 57, op := Go.Op.move (Go.Operand.tmp 72), type := 57, pos := "law.go:117", after := #[{ on := 14, ground := Go.Ground.data }], guard := none }) (v := ?vv15) rfl (by kernel_rfl) (by kernel_rfl) (by kernel_rfl) (fun _ _ _ h => h) (Or.inl ⟨by rfl, ?hy15⟩) (by assumption) ?rr15
                case hy15 => intro w hSw; (try dsimp only at hSw); go_simp; all_goals with_reducible rfl
                try simp only [Act.put, List.setIfInBounds_toArray, List.set_cons_zero, List.set_cons_succ]
                refine wpAnyH_take (i := 16) (oi := { dst := some 73, op := Go.Op.extract (Go.Operand.tmp 57) 0, type := 3, pos := "law.go:117", after := #[{ on := 15, ground := Go.Ground.data }], guard := none }) (v := ?vv16) rfl (by kernel_rfl) (by kernel_rfl) (by kernel_rfl) (fun _ _ _ h => h) (Or.inl ⟨by rfl, ?hy16⟩) (by assumption) ?rr16
                case hy16 => intro w hSw; (try dsimp only at hSw); go_simp; all_goals with_reducible rfl
                try simp only [Act.put, List.setIfInBounds_toArray, List.set_cons_zero, List.set_cons_succ]
                refine wpAnyH_take (i := 17) (oi := { dst := some 74, op := Go.Op.extract (Go.Operand.tmp 57) 1, type := 3, pos := "law.go:117", after := #[{ on := 15, ground := Go.Ground.data }, { on := 19, ground := Go.Ground.gcOnly Go.Departure.lateStores }], guard := none }) (v := ?vv17) rfl (by kernel_rfl) (by kernel_rfl) (by kernel_rfl) (fun _ _ _ h => h) (Or.inl ⟨by rfl, ?hy17⟩) (by assumption) ?rr17
                case hy17 => intro w hSw; (try dsimp only at hSw); go_simp; all_goals with_reducible rfl
                try simp only [Act.put, List.setIfInBounds_toArray, List.set_cons_zero, List.set_cons_succ]
                refine wpAnyH_take (i := 18) (oi := { dst := some 75, op := Go.Op.extract (Go.Operand.tmp 57) 2, type := 29, pos := "law.go:117", after := #[{ on := 15, ground := Go.Ground.data }, { on := 20, ground := Go.Ground.gcOnly Go.Departure.lateStores }], guard := none }) (v := ?vv18) rfl (by kernel_rfl) (by kernel_rfl) (by kernel_rfl) (fun _ _ _ h => h) (Or.inl ⟨by rfl, ?hy18⟩) (by assumption) ?rr18
                case hy18 => intro w hSw; (try dsimp only at hSw); go_simp; all_goals with_reducible rfl
                try simp only [Act.put, List.setIfInBounds_toArray, List.set_cons_zero, List.set_cons_succ]
                refine wpAnyH_take (i := 19) (oi := { dst := some 8, op := Go.Op.assign (Go.Operand.tmp 73), type := 3, pos := "law.go:117", after := #[{ on := 16, ground := Go.Ground.data }, { on := 14, ground := Go.Ground.chain }, { on := 0, ground := Go.Ground.phase }, { on := 1, ground := Go.Ground.phase }, { on := 2, ground := Go.Ground.phase }, { on := 3, ground := Go.Ground.phase }, { on := 4, ground := Go.Ground.phase }, { on := 5, ground := Go.Ground.phase }, { on := 6, ground := Go.Ground.phase }, { on := 7, ground := Go.Ground.phase }, { on := 8, ground := Go.Ground.phase }, { on := 9, ground := Go.Ground.phase }, { on := 10, ground := Go.Ground.phase }, { on := 11, ground := Go.Ground.phase }, { on := 12, ground := Go.Ground.phase }, { on := 13, ground := Go.Ground.phase }, { on := 14, ground := Go.Ground.phase }, { on := 15, ground := Go.Ground.phase }, { on := 16, ground := Go.Ground.phase }, { on := 17, ground := Go.Ground.textOnly Go.Departure.lateStores }, { on := 18, ground := Go.Ground.textOnly Go.Departure.lateStores }], guard := none }) (v := ?vv19) rfl (by kernel_rfl) (by kernel_rfl) (by kernel_rfl) (fun _ _ _ h => h) (Or.inl ⟨by rfl, ?hy19⟩) (by assumption) ?rr19
                case hy19 => intro w hSw; (try dsimp only at hSw); go_simp; all_goals with_reducible rfl
                try simp only [Act.put, List.setIfInBounds_toArray, List.set_cons_zero, List.set_cons_succ]
                refine wpAnyH_take (i := 20) (oi := { dst := some 9, op := Go.Op.assign (Go.Operand.tmp 74), type := 3, pos := "law.go:117", after := #[{ on := 17, ground := Go.Ground.data }, { on := 19, ground := Go.Ground.chain }, { on := 0, ground := Go.Ground.phase }, { on := 1, ground := Go.Ground.phase }, { on := 2, ground := Go.Ground.phase }, { on := 3, ground := Go.Ground.phase }, { on := 4, ground := Go.Ground.phase }, { on := 5, ground := Go.Ground.phase }, { on := 6, ground := Go.Ground.phase }, { on := 7, ground := Go.Ground.phase }, { on := 8, ground := Go.Ground.phase }, { on := 9, ground := Go.Ground.phase }, { on := 10, ground := Go.Ground.phase }, { on := 11, ground := Go.Ground.phase }, { on := 12, ground := Go.Ground.phase }, { on := 13, ground := Go.Ground.phase }, { on := 14, ground := Go.Ground.phase }, { on := 15, ground := Go.Ground.phase }, { on := 16, ground := Go.Ground.phase }, { on := 17, ground := Go.Ground.phase }, { on := 18, ground := Go.Ground.textOnly Go.Departure.lateStores }, { on := 19, ground := Go.Ground.phase }], guard := none }) (v := ?vv20) rfl (by kernel_rfl) (by kernel_rfl) (by kernel_rfl) (fun _ _ _ h => h) (Or.inl ⟨by rfl, ?hy20⟩) (by assumption) ?rr20
                case hy20 => intro w hSw; (try dsimp only at hSw); go_simp; all_goals with_reducible rfl
                try simp only [Act.put, List.setIfInBounds_toArray, List.set_cons_zero, List.set_cons_succ]
                refine wpAnyH_take (i := 21) (oi := { dst := some 10, op := Go.Op.assign (Go.Operand.tmp 75), type := 29, pos := "law.go:117", after := #[{ on := 18, ground := Go.Ground.data }, { on := 20, ground := Go.Ground.chain }, { on := 0, ground := Go.Ground.phase }, { on := 1, ground := Go.Ground.phase }, { on := 2, ground := Go.Ground.phase }, { on := 3, ground := Go.Ground.phase }, { on := 4, ground := Go.Ground.phase }, { on := 5, ground := Go.Ground.phase }, { on := 6, ground := Go.Ground.phase }, { on := 7, ground := Go.Ground.phase }, { on := 8, ground := Go.Ground.phase }, { on := 9, ground := Go.Ground.phase }, { on := 10, ground := Go.Ground.phase }, { on := 11, ground := Go.Ground.phase }, { on := 12, ground := Go.Ground.phase }, { on := 13, ground := Go.Ground.phase }, { on := 14, ground := Go.Ground.phase }, { on := 15, ground := Go.Ground.phase }, { on := 16, ground := Go.Ground.phase }, { on := 17, ground := Go.Ground.phase }, { on := 18, ground := Go.Ground.phase }, { on := 19, ground := Go.Ground.phase }, { on := 20, ground := Go.Ground.phase }], guard := none }) (v := ?vv21) rfl (by kernel_rfl) (by kernel_rfl) (by kernel_rfl) (fun _ _ _ h => h) (Or.inl ⟨by rfl, ?hy21⟩) (by assumption) ?rr21
                case hy21 => intro w hSw; (try dsimp only at hSw); go_simp; all_goals with_reducible rfl
                try simp only [Act.put, List.setIfInBounds_toArray, List.set_cons_zero, List.set_cons_succ]
                refine wpAnyH_done (by kernel_rfl) ?_ _
                have ho := (only2_below HD.out).trans ho
                have HB51 := hid (ho.from_ HB50.out CP.out.1 CP.out.2 HB50.out.size)
                have X51 := hid (ho.lies X50.out (lies_ne X50.out C50.out.box (by decide)) (lies_ne X50.out C50.out.row (by decide)))
                have Q51 := hid (ho.lies Q50.out (lies_ne Q50.out C50.out.box (by decide)) (lies_ne Q50.out C50.out.row (by decide)))
                have C51 := hid hc
                clear hc ho
                clear x0 x1 x2 q0 q1
                clear hH0 hH1 a0 a1 HD CD
                have x0 := X51.out.cell 0
                have x1 := X51.out.cell 1
                have x2 := X51.out.cell 2
                have q0 := Q51.out.cell 0
                have q1 := Q51.out.cell 1
                simp only [List.getElem?_toArray, List.getElem?_cons_zero, List.getElem?_cons_succ] at x0 x1 x2 q0 q1
                go_wp2_with fail
                refine (hits_any C51.out (by rw [HLK.out]; exact hk1)).mono ?_
                rintro en w52 ⟨rfl, hb⟩
                have HB52 := hid (then_w HB51.out hb)
                have X52 := hid (X51.out.later hb)
                have Q52 := hid (Q51.out.later hb)
                have C52 := hid (C51.out.later hb)
                clear hb
                clear x0 x1 x2 q0 q1
                by_cases e0 : en_ = 0
                · have x0 := X52.out.cell 0
                  have x1 := X52.out.cell 1
                  have x2 := X52.out.cell 2
                  have q0 := Q52.out.cell 0
                  have q1 := Q52.out.cell 1
                  simp only [List.getElem?_toArray, List.getElem?_cons_zero, List.getElem?_cons_succ] at x0 x1 x2 q0 q1
                  subst e0
                  have HIT := hid (HAG.out rfl)
                  go_upto_region 12 with fail
                  have a0 := cell_later HB52.out HA.out.1
                  have a1 := cell_later HB52.out HA.out.2.1
                  have HD := hid ((Below.refl w52.heap.size w52).drew)
                  have CD := hid (C52.out.later HD.out)
                  refine wp_region_held_drew (S := (fun w' => w'.cell? ⟨w.heap.size, 0, none⟩ = some (.slice A h.objs.length d) ∧ w'.cell? ⟨w.heap.size, 1, none⟩ = some (.int .i64 h.cap) ∧ w'.cell? ⟨w.heap.size, 2, none⟩ = some (.int .i64 h.last) ∧ w'.cell? ⟨w.heap.size + 1, 1, none⟩ = some (.slice (some ⟨b, off, none⟩) l.length e) ∧ w'.cell? ⟨b, off + j * 4, none⟩ = some (.int .i64 ac) ∧ w'.cell? ⟨b, off + j * 4 + 1, none⟩ = some (.int .i64 as_))) (by kernel_rfl) ?_ (fun hH0 => ?_)
                  · exact ⟨x0, x1, x2, q1, a0, a1⟩
                  refine wpAnyH_take (i := 0) (oi := { dst := some 81, op := Go.Op.move (Go.Operand.tmp 5), type := 51, pos := "law.go:119", after := #[], guard := none }) (v := ?vv22) rfl (by kernel_rfl) (by kernel_rfl) (by kernel_rfl) (fun _ _ _ h => h) (Or.inl ⟨by rfl, ?hy22⟩) (by assumption) ?rr22
                  case hy22 => intro w hSw; (try dsimp only at hSw); go_simp; all_goals with_reducible rfl
                  try simp only [Act.put, List.setIfInBounds_toArray, List.set_cons_zero, List.set_cons_succ]
                  refine wpAnyH_take (i := 1) (oi := { dst := some 82, op := Go.Op.load 24 (Go.Operand.tmp 2), type := 24, pos := "law.go:119", after := #[], guard := none }) (v := ?vv23) rfl (by kernel_rfl) (by kernel_rfl) (by kernel_rfl) (fun _ _ _ h => h) (Or.inl ⟨by rfl, ?hy23⟩) (by assumption) ?rr23
                  case hy23 => intro w hSw; (try dsimp only at hSw); go_simp; all_goals with_reducible rfl
                  try simp only [Act.put, List.setIfInBounds_toArray, List.set_cons_zero, List.set_cons_succ]
                  refine wpAnyH_take (i := 2) (oi := { dst := some 83, op := Go.Op.fieldAddr 50 (Go.Operand.tmp 3) 1, type := 0, pos := "law.go:119", after := #[], guard := none }) (v := ?vv24) rfl (by kernel_rfl) (by kernel_rfl) (by kernel_rfl) (fun _ _ _ h => h) (Or.inl ⟨by rfl, ?hy24⟩) (by assumption) ?rr24
                  case hy24 => intro w hSw; (try dsimp only at hSw); go_simp; all_goals with_reducible rfl
                  try simp only [Act.put, List.setIfInBounds_toArray, List.set_cons_zero, List.set_cons_succ]
                  refine wpAnyH_take (i := 3) (oi := { dst := some 84, op := Go.Op.load 48 (Go.Operand.tmp 83), type := 48, pos := "law.go:119", after := #[{ on := 2, ground := Go.Ground.data }], guard := none }) (v := ?vv25) rfl (by kernel_rfl) (by kernel_rfl) (by kernel_rfl) (fun _ _ _ h => h) (Or.inl ⟨by rfl, ?hy25⟩) (by assumption) ?rr25
                  case hy25 => intro w hSw; (try dsimp only at hSw); go_simp; all_goals with_reducible rfl
                  try simp only [Act.put, List.setIfInBounds_toArray, List.set_cons_zero, List.set_cons_succ]
                  refine wpAnyH_take (i := 4) (oi := { dst := some 85, op := Go.Op.move (Go.Operand.tmp 7), type := 3, pos := "law.go:119", after := #[], guard := none }) (v := ?vv26) rfl (by kernel_rfl) (by kernel_rfl) (by kernel_rfl) (fun _ _ _ h => h) (Or.inl ⟨by rfl, ?hy26⟩) (by assumption) ?rr26
                  case hy26 => intro w hSw; (try dsimp only at hSw); go_simp; all_goals with_reducible rfl
                  try simp only [Act.put, List.setIfInBounds_toArray, List.set_cons_zero, List.set_cons_succ]
                  refine wpAnyH_take (i := 5) (oi := { dst := some 86, op := Go.Op.indexAddr 48 (Go.Operand.tmp 84) (Go.Operand.tmp 85), type := 0, pos := "law.go:119", after := #[{ on := 3, ground := Go.Ground.data }, { on := 4, ground := Go.Ground.data }], guard := none }) (v := ?vv27) rfl (by kernel_rfl) (by kernel_rfl) (by kernel_rfl) (fun _ _ _ h => h) (Or.inl ⟨by rfl, ?hy27⟩) (by assumption) ?rr27
                  case hy27 => intro w hSw; (try dsimp only at hSw); go_simp; all_goals with_reducible rfl
                  try simp only [Act.put, List.setIfInBounds_toArray, List.set_cons_zero, List.set_cons_succ]
                  refine wpAnyH_take (i := 6) (oi := { dst := some 87, op := Go.Op.fieldAddr 56 (Go.Operand.tmp 86) 0, type := 0, pos := "law.go:119", after := #[{ on := 5, ground := Go.Ground.data }], guard := none }) (v := ?vv28) rfl (by kernel_rfl) (by kernel_rfl) (by kernel_rfl) (fun _ _ _ h => h) (Or.inl ⟨by rfl, ?hy28⟩) (by assumption) ?rr28
                  case hy28 => intro w hSw; (try dsimp only at hSw); go_simp; all_goals with_reducible rfl
                  try simp only [Act.put, List.setIfInBounds_toArray, List.set_cons_zero, List.set_cons_succ]
                  refine wpAnyH_take (i := 7) (oi := { dst := some 88, op := Go.Op.load 3 (Go.Operand.tmp 87), type := 3, pos := "law.go:119", after := #[{ on := 6, ground := Go.Ground.data }], guard := none }) (v := ?vv29) rfl (by kernel_rfl) (by kernel_rfl) (by kernel_rfl) (fun _ _ _ h => h) (Or.inl ⟨by rfl, ?hy29⟩) (by assumption) ?rr29
                  case hy29 => intro w hSw; (try dsimp only at hSw); go_simp; all_goals with_reducible rfl
                  try simp only [Act.put, List.setIfInBounds_toArray, List.set_cons_zero, List.set_cons_succ]
                  refine wpAnyH_take (i := 8) (oi := { dst := some 89, op := Go.Op.fieldAddr 50 (Go.Operand.tmp 3) 1, type := 0, pos := "law.go:119", after := #[], guard := none }) (v := ?vv30) rfl (by kernel_rfl) (by kernel_rfl) (by kernel_rfl) (fun _ _ _ h => h) (Or.inl ⟨by rfl, ?hy30⟩) (by assumption) ?rr30
                  case hy30 => intro w hSw; (try dsimp only at hSw); go_simp; all_goals with_reducible rfl
                  try simp only [Act.put, List.setIfInBounds_toArray, List.set_cons_zero, List.set_cons_succ]
                  refine wpAnyH_take (i := 9) (oi := { dst := some 90, op := Go.Op.load 48 (Go.Operand.tmp 89), type := 48, pos := "law.go:119", after := #[{ on := 8, ground := Go.Ground.data }], guard := none }) (v := ?vv31) rfl (by kernel_rfl) (by kernel_rfl) (by kernel_rfl) (fun _ _ _ h => h) (Or.inl ⟨by rfl, ?hy31⟩) (by assumption) ?rr31
                  case hy31 => intro w hSw; (try dsimp only at hSw); go_simp; all_goals with_reducible rfl
                  try simp only [Act.put, List.setIfInBounds_toArray, List.set_cons_zero, List.set_cons_succ]
                  refine wpAnyH_take (i := 10) (oi := { dst := some 91, op := Go.Op.move (Go.Operand.tmp 7), type := 3, pos := "law.go:119", after := #[], guard := none }) (v := ?vv32) rfl (by kernel_rfl) (by kernel_rfl) (by kernel_rfl) (fun _ _ _ h => h) (Or.inl ⟨by rfl, ?hy32⟩) (by assumption) ?rr32
                  case hy32 => intro w hSw; (try dsimp only at hSw); go_simp; all_goals with_reducible rfl
                  try simp only [Act.put, List.setIfInBounds_toArray, List.set_cons_zero, List.set_cons_succ]
                  refine wpAnyH_take (i := 11) (oi := { dst := some 92, op := Go.Op.indexAddr 48 (Go.Operand.tmp 90) (Go.Operand.tmp 91), type := 0, pos := "law.go:119", after := #[{ on := 9, ground := Go.Ground.data }, { on := 10, ground := Go.Ground.data }], guard := none }) (v := ?vv33) rfl (by kernel_rfl) (by kernel_rfl) (by kernel_rfl) (fun _ _ _ h => h) (Or.inl ⟨by rfl, ?hy33⟩) (by assumption) ?rr33
                  case hy33 => intro w hSw; (try dsimp only at hSw); go_simp; all_goals with_reducible rfl
                  try simp only [Act.put, List.setIfInBounds_toArray, List.set_cons_zero, List.set_cons_succ]
                  refine wpAnyH_take (i := 12) (oi := { dst := some 93, op := Go.Op.fieldAddr 56 (Go.Operand.tmp 92) 1, type := 0, pos := "law.go:119", after := #[{ on := 11, ground := Go.Ground.data }], guard := none }) (v := ?vv34) rfl (by kernel_rfl) (by kernel_rfl) (by kernel_rfl) (fun _ _ _ h => h) (Or.inl ⟨by rfl, ?hy34⟩) (by assumption) ?rr34
                  case hy34 => intro w hSw; (try dsimp only at hSw); go_simp; all_goals with_reducible rfl
                  try simp only [Act.put, List.setIfInBounds_toArray, List.set_cons_zero, List.set_cons_succ]
                  refine wpAnyH_take (i := 13) (oi := { dst := some 94, op := Go.Op.load 3 (Go.Operand.tmp 93), type := 3, pos := "law.go:119", after := #[{ on := 12, ground := Go.Ground.data }], guard := none }) (v := ?vv35) rfl (by kernel_rfl) (by kernel_rfl) (by kernel_rfl) (fun _ _ _ h => h) (Or.inl ⟨by rfl, ?hy35⟩) (by assumption) ?rr35
                  case hy35 => intro w hSw; (try dsimp only at hSw); go_simp; all_goals with_reducible rfl
                  try simp only [Act.put, List.setIfInBounds_toArray, List.set_cons_zero, List.set_cons_succ]
                  refine wpAnyH_ready (rs := [14]) (by kernel_rfl) (by simp) ?_
                  refine AllReadyH.cons (i := 14) (o := { dst := some 95, op := Go.Op.call { callee := Go.Callee.value (Go.Operand.func 41), args := #[Go.Operand.tmp 81, Go.Operand.tmp 82, Go.Operand.tmp 88, Go.Operand.tmp 94], argTypes := #[51, 24, 3, 3] }, type := 57, pos := "law.go:119", after := #[{ on := 0, ground := Go.Ground.data }, { on := 1, ground := Go.Ground.data }, { on := 7, ground := Go.Ground.data }, { on := 13, ground := Go.Ground.data }], guard := none }) rfl (fun K hK => ?_) AllReadyH.nil
                  go_simp
                  go_at_call 41
                  refine (find_any10 CD.out (by rw [HLK.out]; exact hk1) (by rw [HLK.out]; exact hk64) h ac as_ A d (fun w' ho' => HSO.out.below (((only2_below HD.out).trans ho').from_ HB52.out CP.out.1 CP.out.2 HB52.out.size)) HF.out hn1N hm1N).mono ?_
                  rintro en w53 hfd
                  obtain ⟨rfl, hc, ho⟩ := hfd
                  obtain ⟨v2, hv2⟩ : ∃ v, v = fd10 L1 h ac as_ := ⟨_, rfl⟩
                  rw [← hv2]
                  clear hv2
                  rw [HIT.out, if_pos rfl, if_pos rfl] at hc
                  have hl2 := cb10_len L1 h ac as_
                  rw [HLK.out] at hl2
                  obtain ⟨L2, hL2⟩ : ∃ L, L = cb10 L1 h ac as_ := ⟨_, rfl⟩
                  rw [← hL2] at hc hl2 HSO2
                  have HLK2 := hid hl2
                  clear hL2 hl2
                  unfold tu10
                  refine hK.out _ _ ?_ (fun hH1 => ?_)
                  · exact ⟨ho.cell (lies_ne X52.out C52.out.box (by decide)) (lies_ne X52.out C52.out.row (by decide)) hH0.1, ho.cell (lies_ne X52.out C52.out.box (by decide)) (lies_ne X52.out C52.out.row (by decide)) hH0.2.1, ho.cell (lies_ne X52.out C52.out.box (by decide)) (lies_ne X52.out C52.out.row (by decide)) hH0.2.2.1, ho.cell (lies_ne Q52.out C52.out.box (by decide)) (lies_ne Q52.out C52.out.row (by decide)) hH0.2.2.2.1, ho.cell (Nat.ne_of_lt (Nat.lt_of_lt_of_le HBL.out CP.out.1)) (Nat.ne_of_lt (Nat.lt_of_lt_of_le HBL.out CP.out.2)) hH0.2.2.2.2.1, ho.cell (Nat.ne_of_lt (Nat.lt_of_lt_of_le HBL.out CP.out.1)) (Nat.ne_of_lt (Nat.lt_of_lt_of_le HBL.out CP.out.2)) hH0.2.2.2.2.2⟩
                  clear hK K
                  try simp only [Act.put, List.setIfInBounds_toArray, List.set_cons_zero, List.set_cons_succ]
                  refine wpAnyH_done (by kernel_rfl) ?_ _
                  have ho := (only2_below HD.out).trans ho
                  have HB53 := hid (ho.from_ HB52.out CP.out.1 CP.out.2 HB52.out.size)
                  have X53 := hid (ho.lies X52.out (lies_ne X52.out C52.out.box (by decide)) (lies_ne X52.out C52.out.row (by decide)))
                  have Q53 := hid (ho.lies Q52.out (lies_ne Q52.out C52.out.box (by decide)) (lies_ne Q52.out C52.out.row (by decide)))
                  have C53 := hid hc
                  clear hc ho
                  clear x0 x1 x2 q0 q1
                  clear hH0 hH1 a0 a1 HD CD
                  have x0 := X53.out.cell 0
                  have x1 := X53.out.cell 1
                  have x2 := X53.out.cell 2
                  have q0 := Q53.out.cell 0
                  have q1 := Q53.out.cell 1
                  simp only [List.getElem?_toArray, List.getElem?_cons_zero, List.getElem?_cons_succ] at x0 x1 x2 q0 q1
                  go_wp2_with fail
                  refine (hits_any C53.out (by rw [HLK2.out]; exact hk1)).mono ?_
                  rintro en w54 ⟨rfl, hb⟩
                  have HB54 := hid (then_w HB53.out hb)
                  have X54 := hid (X53.out.later hb)
                  have Q54 := hid (Q53.out.later hb)
                  have C54 := hid (C53.out.later hb)
                  clear hb
                  clear x0 x1 x2 q0 q1
                  have x0 := X54.out.cell 0
                  have x1 := X54.out.cell 1
                  have x2 := X54.out.cell 2
                  have q0 := Q54.out.cell 0
                  have q1 := Q54.out.cell 1
                  simp only [List.getElem?_toArray, List.getElem?_cons_zero, List.getElem?_cons_succ] at x0 x1 x2 q0 q1
                  have w1_ : IntKind.i64.wrap ((n1 + 1) + m1) = 2 * (j : Int) + 2 := by rw [IntWalk.i64_in _ ⟨by omega, by omega⟩]; have := HS1.out; omega
                  have w2_ : IntKind.i64.wrap (n1 + 1) = n1 + 1 := IntWalk.i64_in _ ⟨by omega, by omega⟩
                  have w4_ : IntKind.i64.wrap (2 * (j : Int) + 2) = 2 * (j : Int) + 2 := IntWalk.i64_in _ ⟨by omega, by omega⟩
                  have w5_ : IntKind.i64.wrap ((j : Int) + 1) = (j : Int) + 1 := IntWalk.i64_in _ ⟨by omega, by omega⟩
                  go_wp2_with fail
                  go_roundw
                  case rel => exact ⟨j + 1, L2, (n1 + 1), m1, by omega, by go_num, by go_num, HLK2, HSO2, by show _ = _; have := HS1.out; omega, by omega, by omega, HB54.out, X54.out, Q54.out, C54.out⟩
                  case measure => simp only [intOf]; omega
                · have x0 := X52.out.cell 0
                  have x1 := X52.out.cell 1
                  have x2 := X52.out.cell 2
                  have q0 := Q52.out.cell 0
                  have q1 := Q52.out.cell 1
                  simp only [List.getElem?_toArray, List.getElem?_cons_zero, List.getElem?_cons_succ] at x0 x1 x2 q0 q1
                  have e0B : (en_ == 0) = false := beq_eq_false_iff_ne.2 e0
                  have HIT := hid (HNO.out e0)
                  go_upto_region 12 with fail
                  have a0 := cell_later HB52.out HA.out.1
                  have a1 := cell_later HB52.out HA.out.2.1
                  have HD := hid ((Below.refl w52.heap.size w52).drew)
                  have CD := hid (C52.out.later HD.out)
                  refine wp_region_held_drew (S := (fun w' => w'.cell? ⟨w.heap.size, 0, none⟩ = some (.slice A h.objs.length d) ∧ w'.cell? ⟨w.heap.size, 1, none⟩ = some (.int .i64 h.cap) ∧ w'.cell? ⟨w.heap.size, 2, none⟩ = some (.int .i64 h.last) ∧ w'.cell? ⟨w.heap.size + 1, 1, none⟩ = some (.slice (some ⟨b, off, none⟩) l.length e) ∧ w'.cell? ⟨b, off + j * 4, none⟩ = some (.int .i64 ac) ∧ w'.cell? ⟨b, off + j * 4 + 1, none⟩ = some (.int .i64 as_))) (by kernel_rfl) ?_ (fun hH0 => ?_)
                  · exact ⟨x0, x1, x2, q1, a0, a1⟩
                  refine wpAnyH_take (i := 0) (oi := { dst := some 81, op := Go.Op.move (Go.Operand.tmp 5), type := 51, pos := "law.go:119", after := #[], guard := none }) (v := ?vv36) rfl (by kernel_rfl) (by kernel_rfl) (by kernel_rfl) (fun _ _ _ h => h) (Or.inl ⟨by rfl, ?hy36⟩) (by assumption) ?rr36
                  case hy36 => intro w hSw; (try dsimp only at hSw); go_simp; all_goals with_reducible rfl
                  try simp only [Act.put, List.setIfInBounds_toArray, List.set_cons_zero, List.set_cons_succ]
                  refine wpAnyH_take (i := 1) (oi := { dst := some 82, op := Go.Op.load 24 (Go.Operand.tmp 2), type := 24, pos := "law.go:119", after := #[], guard := none }) (v := ?vv37) rfl (by kernel_rfl) (by kernel_rfl) (by kernel_rfl) (fun _ _ _ h => h) (Or.inl ⟨by rfl, ?hy37⟩) (by assumption) ?rr37
                  case hy37 => intro w hSw; (try dsimp only at hSw); go_simp; all_goals with_reducible rfl
                  try simp only [Act.put, List.setIfInBounds_toArray, List.set_cons_zero, List.set_cons_succ]
                  refine wpAnyH_take (i := 2) (oi := { dst := some 83, op := Go.Op.fieldAddr 50 (Go.Operand.tmp 3) 1, type := 0, pos := "law.go:119", after := #[], guard := none }) (v := ?vv38) rfl (by kernel_rfl) (by kernel_rfl) (by kernel_rfl) (fun _ _ _ h => h) (Or.inl ⟨by rfl, ?hy38⟩) (by assumption) ?rr38
                  case hy38 => intro w hSw; (try dsimp only at hSw); go_simp; all_goals with_reducible rfl
                  try simp only [Act.put, List.setIfInBounds_toArray, List.set_cons_zero, List.set_cons_succ]
                  refine wpAnyH_take (i := 3) (oi := { dst := some 84, op := Go.Op.load 48 (Go.Operand.tmp 83), type := 48, pos := "law.go:119", after := #[{ on := 2, ground := Go.Ground.data }], guard := none }) (v := ?vv39) rfl (by kernel_rfl) (by kernel_rfl) (by kernel_rfl) (fun _ _ _ h => h) (Or.inl ⟨by rfl, ?hy39⟩) (by assumption) ?rr39
                  case hy39 => intro w hSw; (try dsimp only at hSw); go_simp; all_goals with_reducible rfl
                  try simp only [Act.put, List.setIfInBounds_toArray, List.set_cons_zero, List.set_cons_succ]
                  refine wpAnyH_take (i := 4) (oi := { dst := some 85, op := Go.Op.move (Go.Operand.tmp 7), type := 3, pos := "law.go:119", after := #[], guard := none }) (v := ?vv40) rfl (by kernel_rfl) (by kernel_rfl) (by kernel_rfl) (fun _ _ _ h => h) (Or.inl ⟨by rfl, ?hy40⟩) (by assumption) ?rr40
                  case hy40 => intro w hSw; (try dsimp only at hSw); go_simp; all_goals with_reducible rfl
                  try simp only [Act.put, List.setIfInBounds_toArray, List.set_cons_zero, List.set_cons_succ]
                  refine wpAnyH_take (i := 5) (oi := { dst := some 86, op := Go.Op.indexAddr 48 (Go.Operand.tmp 84) (Go.Operand.tmp 85), type := 0, pos := "law.go:119", after := #[{ on := 3, ground := Go.Ground.data }, { on := 4, ground := Go.Ground.data }], guard := none }) (v := ?vv41) rfl (by kernel_rfl) (by kernel_rfl) (by kernel_rfl) (fun _ _ _ h => h) (Or.inl ⟨by rfl, ?hy41⟩) (by assumption) ?rr41
                  case hy41 => intro w hSw; (try dsimp only at hSw); go_simp; all_goals with_reducible rfl
                  try simp only [Act.put, List.setIfInBounds_toArray, List.set_cons_zero, List.set_cons_succ]
                  refine wpAnyH_take (i := 6) (oi := { dst := some 87, op := Go.Op.fieldAddr 56 (Go.Operand.tmp 86) 0, type := 0, pos := "law.go:119", after := #[{ on := 5, ground := Go.Ground.data }], guard := none }) (v := ?vv42) rfl (by kernel_rfl) (by kernel_rfl) (by kernel_rfl) (fun _ _ _ h => h) (Or.inl ⟨by rfl, ?hy42⟩) (by assumption) ?rr42
                  case hy42 => intro w hSw; (try dsimp only at hSw); go_simp; all_goals with_reducible rfl
                  try simp only [Act.put, List.setIfInBounds_toArray, List.set_cons_zero, List.set_cons_succ]
                  refine wpAnyH_take (i := 7) (oi := { dst := some 88, op := Go.Op.load 3 (Go.Operand.tmp 87), type := 3, pos := "law.go:119", after := #[{ on := 6, ground := Go.Ground.data }], guard := none }) (v := ?vv43) rfl (by kernel_rfl) (by kernel_rfl) (by kernel_rfl) (fun _ _ _ h => h) (Or.inl ⟨by rfl, ?hy43⟩) (by assumption) ?rr43
                  case hy43 => intro w hSw; (try dsimp only at hSw); go_simp; all_goals with_reducible rfl
                  try simp only [Act.put, List.setIfInBounds_toArray, List.set_cons_zero, List.set_cons_succ]
                  refine wpAnyH_take (i := 8) (oi := { dst := some 89, op := Go.Op.fieldAddr 50 (Go.Operand.tmp 3) 1, type := 0, pos := "law.go:119", after := #[], guard := none }) (v := ?vv44) rfl (by kernel_rfl) (by kernel_rfl) (by kernel_rfl) (fun _ _ _ h => h) (Or.inl ⟨by rfl, ?hy44⟩) (by assumption) ?rr44
                  case hy44 => intro w hSw; (try dsimp only at hSw); go_simp; all_goals with_reducible rfl
                  try simp only [Act.put, List.setIfInBounds_toArray, List.set_cons_zero, List.set_cons_succ]
                  refine wpAnyH_take (i := 9) (oi := { dst := some 90, op := Go.Op.load 48 (Go.Operand.tmp 89), type := 48, pos := "law.go:119", after := #[{ on := 8, ground := Go.Ground.data }], guard := none }) (v := ?vv45) rfl (by kernel_rfl) (by kernel_rfl) (by kernel_rfl) (fun _ _ _ h => h) (Or.inl ⟨by rfl, ?hy45⟩) (by assumption) ?rr45
                  case hy45 => intro w hSw; (try dsimp only at hSw); go_simp; all_goals with_reducible rfl
                  try simp only [Act.put, List.setIfInBounds_toArray, List.set_cons_zero, List.set_cons_succ]
                  refine wpAnyH_take (i := 10) (oi := { dst := some 91, op := Go.Op.move (Go.Operand.tmp 7), type := 3, pos := "law.go:119", after := #[], guard := none }) (v := ?vv46) rfl (by kernel_rfl) (by kernel_rfl) (by kernel_rfl) (fun _ _ _ h => h) (Or.inl ⟨by rfl, ?hy46⟩) (by assumption) ?rr46
                  case hy46 => intro w hSw; (try dsimp only at hSw); go_simp; all_goals with_reducible rfl
                  try simp only [Act.put, List.setIfInBounds_toArray, List.set_cons_zero, List.set_cons_succ]
                  refine wpAnyH_take (i := 11) (oi := { dst := some 92, op := Go.Op.indexAddr 48 (Go.Operand.tmp 90) (Go.Operand.tmp 91), type := 0, pos := "law.go:119", after := #[{ on := 9, ground := Go.Ground.data }, { on := 10, ground := Go.Ground.data }], guard := none }) (v := ?vv47) rfl (by kernel_rfl) (by kernel_rfl) (by kernel_rfl) (fun _ _ _ h => h) (Or.inl ⟨by rfl, ?hy47⟩) (by assumption) ?rr47
                  case hy47 => intro w hSw; (try dsimp only at hSw); go_simp; all_goals with_reducible rfl
                  try simp only [Act.put, List.setIfInBounds_toArray, List.set_cons_zero, List.set_cons_succ]
                  refine wpAnyH_take (i := 12) (oi := { dst := some 93, op := Go.Op.fieldAddr 56 (Go.Operand.tmp 92) 1, type := 0, pos := "law.go:119", after := #[{ on := 11, ground := Go.Ground.data }], guard := none }) (v := ?vv48) rfl (by kernel_rfl) (by kernel_rfl) (by kernel_rfl) (fun _ _ _ h => h) (Or.inl ⟨by rfl, ?hy48⟩) (by assumption) ?rr48
                  case hy48 => intro w hSw; (try dsimp only at hSw); go_simp; all_goals with_reducible rfl
                  try simp only [Act.put, List.setIfInBounds_toArray, List.set_cons_zero, List.set_cons_succ]
                  refine wpAnyH_take (i := 13) (oi := { dst := some 94, op := Go.Op.load 3 (Go.Operand.tmp 93), type := 3, pos := "law.go:119", after := #[{ on := 12, ground := Go.Ground.data }], guard := none }) (v := ?vv49) rfl (by kernel_rfl) (by kernel_rfl) (by kernel_rfl) (fun _ _ _ h => h) (Or.inl ⟨by rfl, ?hy49⟩) (by assumption) ?rr49
                  case hy49 => intro w hSw; (try dsimp only at hSw); go_simp; all_goals with_reducible rfl
                  try simp only [Act.put, List.setIfInBounds_toArray, List.set_cons_zero, List.set_cons_succ]
                  refine wpAnyH_ready (rs := [14]) (by kernel_rfl) (by simp) ?_
                  refine AllReadyH.cons (i := 14) (o := { dst := some 95, op := Go.Op.call { callee := Go.Callee.value (Go.Operand.func 41), args := #[Go.Operand.tmp 81, Go.Operand.tmp 82, Go.Operand.tmp 88, Go.Operand.tmp 94], argTypes := #[51, 24, 3, 3] }, type := 57, pos := "law.go:119", after := #[{ on := 0, ground := Go.Ground.data }, { on := 1, ground := Go.Ground.data }, { on := 7, ground := Go.Ground.data }, { on := 13, ground := Go.Ground.data }], guard := none }) rfl (fun K hK => ?_) AllReadyH.nil
                  go_simp
                  go_at_call 41
                  refine (find_any10 CD.out (by rw [HLK.out]; exact hk1) (by rw [HLK.out]; exact hk64) h ac as_ A d (fun w' ho' => HSO.out.below (((only2_below HD.out).trans ho').from_ HB52.out CP.out.1 CP.out.2 HB52.out.size)) HF.out hn1N hm1N).mono ?_
                  rintro en w53 hfd
                  obtain ⟨rfl, hc, ho⟩ := hfd
                  obtain ⟨v2, hv2⟩ : ∃ v, v = fd10 L1 h ac as_ := ⟨_, rfl⟩
                  rw [← hv2]
                  clear hv2
                  rw [HIT.out, if_neg (by decide), if_neg (by decide)] at hc
                  have hl2 := cb10_len L1 h ac as_
                  rw [HLK.out] at hl2
                  obtain ⟨L2, hL2⟩ : ∃ L, L = cb10 L1 h ac as_ := ⟨_, rfl⟩
                  rw [← hL2] at hc hl2 HSO2
                  have HLK2 := hid hl2
                  clear hL2 hl2
                  unfold tu10
                  refine hK.out _ _ ?_ (fun hH1 => ?_)
                  · exact ⟨ho.cell (lies_ne X52.out C52.out.box (by decide)) (lies_ne X52.out C52.out.row (by decide)) hH0.1, ho.cell (lies_ne X52.out C52.out.box (by decide)) (lies_ne X52.out C52.out.row (by decide)) hH0.2.1, ho.cell (lies_ne X52.out C52.out.box (by decide)) (lies_ne X52.out C52.out.row (by decide)) hH0.2.2.1, ho.cell (lies_ne Q52.out C52.out.box (by decide)) (lies_ne Q52.out C52.out.row (by decide)) hH0.2.2.2.1, ho.cell (Nat.ne_of_lt (Nat.lt_of_lt_of_le HBL.out CP.out.1)) (Nat.ne_of_lt (Nat.lt_of_lt_of_le HBL.out CP.out.2)) hH0.2.2.2.2.1, ho.cell (Nat.ne_of_lt (Nat.lt_of_lt_of_le HBL.out CP.out.1)) (Nat.ne_of_lt (Nat.lt_of_lt_of_le HBL.out CP.out.2)) hH0.2.2.2.2.2⟩
                  clear hK K
                  try simp only [Act.put, List.setIfInBounds_toArray, List.set_cons_zero, List.set_cons_succ]
                  refine wpAnyH_done (by kernel_rfl) ?_ _
                  have ho := (only2_below HD.out).trans ho
                  have HB53 := hid (ho.from_ HB52.out CP.out.1 CP.out.2 HB52.out.size)
                  have X53 := hid (ho.lies X52.out (lies_ne X52.out C52.out.box (by decide)) (lies_ne X52.out C52.out.row (by decide)))
                  have Q53 := hid (ho.lies Q52.out (lies_ne Q52.out C52.out.box (by decide)) (lies_ne Q52.out C52.out.row (by decide)))
                  have C53 := hid hc
                  clear hc ho
                  clear x0 x1 x2 q0 q1
                  clear hH0 hH1 a0 a1 HD CD
                  have x0 := X53.out.cell 0
                  have x1 := X53.out.cell 1
                  have x2 := X53.out.cell 2
                  have q0 := Q53.out.cell 0
                  have q1 := Q53.out.cell 1
                  simp only [List.getElem?_toArray, List.getElem?_cons_zero, List.getElem?_cons_succ] at x0 x1 x2 q0 q1
                  go_wp2_with fail
                  refine (hits_any C53.out (by rw [HLK2.out]; exact hk1)).mono ?_
                  rintro en w54 ⟨rfl, hb⟩
                  have HB54 := hid (then_w HB53.out hb)
                  have X54 := hid (X53.out.later hb)
                  have Q54 := hid (Q53.out.later hb)
                  have C54 := hid (C53.out.later hb)
                  clear hb
                  clear x0 x1 x2 q0 q1
                  have x0 := X54.out.cell 0
                  have x1 := X54.out.cell 1
                  have x2 := X54.out.cell 2
                  have q0 := Q54.out.cell 0
                  have q1 := Q54.out.cell 1
                  simp only [List.getElem?_toArray, List.getElem?_cons_zero, List.getElem?_cons_succ] at x0 x1 x2 q0 q1
                  have w1_ : IntKind.i64.wrap (n1 + (m1 + 1)) = 2 * (j : Int) + 2 := by rw [IntWalk.i64_in _ ⟨by omega, by omega⟩]; have := HS1.out; omega
                  have w2_ : IntKind.i64.wrap (m1 + 1) = m1 + 1 := IntWalk.i64_in _ ⟨by omega, by omega⟩
                  have w4_ : IntKind.i64.wrap (2 * (j : Int) + 2) = 2 * (j : Int) + 2 := IntWalk.i64_in _ ⟨by omega, by omega⟩
                  have w5_ : IntKind.i64.wrap ((j : Int) + 1) = (j : Int) + 1 := IntWalk.i64_in _ ⟨by omega, by omega⟩
                  go_wp2_with fail
                  go_roundw
                  case rel => exact ⟨j + 1, L2, n1, (m1 + 1), by omega, by go_num, by go_num, HLK2, HSO2, by show _ = _; have := HS1.out; omega, by omega, by omega, HB54.out, X54.out, Q54.out, C54.out⟩
                  case measure => simp only [intOf]; omega
              · have hjI : ¬ (j : Int) < (l.length : Int) := by omega
                go_wp2_with fail
                go_ret
                exact ⟨rfl, HB50.out⟩
end Go.Proofs.Ytcahdhocilmoeaa
