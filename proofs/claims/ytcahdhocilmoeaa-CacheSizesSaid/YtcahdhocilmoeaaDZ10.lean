/- CacheSizes walked: whatever heap, sizes and askings, it answers true. -/
import Derived.Test.YtcahdhocilmoeaaCJ10
import Derived.Test.YtcahdhocilmoeaaOA10
import Derived.Test.YtcahdhocilmoeaaN
namespace Go.Proofs.Ytcahdhocilmoeaa
open Go.RowKit
set_option maxRecDepth 100000
set_option maxHeartbeats 2000000 in
theorem sizes10_any (h : Hp) (z : Int) (l : List Ak) (y : Int) (A : Option Addr) (d : Nat) (B : Option Addr) (e : Nat) (w : World) (hs : ObsR w A h.objs) (fit : h.Fit) (hk : AksR w B l) (_fl : l.length ≤ 9223372036854775807) :
    Calls Try.prog 12 #[.agg #[.slice A h.objs.length d, .int .i64 h.cap, .int .i64 h.last], .agg #[.int .i64 z, .slice B l.length e], .int .i64 y] w fun en w' => en = .returned (.bool true) ∧ Below w.heap.size w w' := by
  obtain ⟨w0, hw0⟩ : ∃ u, u = (w.alloc (.cells #[Value.slice A h.objs.length d, Value.int .i64 h.cap, Value.int .i64 h.last] 24)).alloc (.cells #[.int .i64 z, .slice B l.length e] 50) := ⟨_, rfl⟩
  have HB0 : Hid (Below w.heap.size w w0) := by show Below _ _ _; rw [hw0]; exact (((below_alloc w _)).alloc (by simp <;> omega) _)
  have X0 : Hid (Lies w0 (w.heap.size) 24 #[Value.slice A h.objs.length d, Value.int .i64 h.cap, Value.int .i64 h.last]) := by
    show Lies _ _ _ _
    rw [hw0]
    have := (Lies.new w 24 #[Value.slice A h.objs.length d, Value.int .i64 h.cap, Value.int .i64 h.last]).alloc (.cells #[.int .i64 z, .slice B l.length e] 50)
    simpa using this
  have Q0 : Hid (Lies w0 (w.heap.size + 1) 50 #[.int .i64 z, .slice B l.length e]) := by
    show Lies _ _ _ _
    rw [hw0]
    have := (Lies.new (w.alloc (.cells #[Value.slice A h.objs.length d, Value.int .i64 h.cap, Value.int .i64 h.last] 24)) 50 #[.int .i64 z, .slice B l.length e])
    simpa using this
  have O0 := hid (hs.below HB0.out)
  have HSO := hid hs
  have HAK := hid hk
  have HF := hid fit
  clear hs fit hk
  go_enter Try.func12, Try.ntmps12
  go_upto_region 1 with fail
  rw [← hw0]
  clear hw0
  have x0 := X0.out.cell 0
  have x1 := X0.out.cell 1
  have x2 := X0.out.cell 2
  have q0 := Q0.out.cell 0
  have q1 := Q0.out.cell 1
  simp only [List.getElem?_toArray, List.getElem?_cons_zero, List.getElem?_cons_succ] at x0 x1 x2 q0 q1
  go_wp2_with fail
  refine (fixed10_any _).mono ?_
  rintro e w1 ⟨rfl, hb⟩
  have HB1 := hid (HB0.out.trans (hb.mono HB0.out.size))
  have X1 := hid (X0.out.later hb)
  have Q1 := hid (Q0.out.later hb)
  have O1 := hid (O0.out.below hb)
  clear x0 x1 x2 q0 q1
  clear hb
  have x0 := X1.out.cell 0
  have x1 := X1.out.cell 1
  have x2 := X1.out.cell 2
  have q0 := Q1.out.cell 0
  have q1 := Q1.out.cell 1
  simp only [List.getElem?_toArray, List.getElem?_cons_zero, List.getElem?_cons_succ] at x0 x1 x2 q0 q1
  go_wp2_with fail
  refine (small_ok h A d _ O1.out HF.out).mono ?_
  rintro e w2 ⟨sm, rfl, hb⟩
  have HB2 := hid (HB1.out.trans (hb.mono HB1.out.size))
  have X2 := hid (X1.out.later hb)
  have Q2 := hid (Q1.out.later hb)
  have O2 := hid (O1.out.below hb)
  clear x0 x1 x2 q0 q1
  clear hb
  have x0 := X2.out.cell 0
  have x1 := X2.out.cell 1
  have x2 := X2.out.cell 2
  have q0 := Q2.out.cell 0
  have q1 := Q2.out.cell 1
  simp only [List.getElem?_toArray, List.getElem?_cons_zero, List.getElem?_cons_succ] at x0 x1 x2 q0 q1
  cases sm
  · go_wp2_with fail
    refine (fixed10_any _).mono ?_
    rintro e w3 ⟨rfl, hb⟩
    have HB3 := hid (HB2.out.trans (hb.mono HB2.out.size))
    have X3 := hid (X2.out.later hb)
    have Q3 := hid (Q2.out.later hb)
    have O3 := hid (O2.out.below hb)
    clear x0 x1 x2 q0 q1
    clear hb
    have x0 := X3.out.cell 0
    have x1 := X3.out.cell 1
    have x2 := X3.out.cell 2
    have q0 := Q3.out.cell 0
    have q1 := Q3.out.cell 1
    simp only [List.getElem?_toArray, List.getElem?_cons_zero, List.getElem?_cons_succ] at x0 x1 x2 q0 q1
    go_wp2_with fail
    go_ret
    exact ⟨rfl, HB3.out⟩
  · by_cases c1 : 40 < h.objs.length
    · go_wp2_with fail
      refine (fixed10_any _).mono ?_
      rintro e w3 ⟨rfl, hb⟩
      have HB3 := hid (HB2.out.trans (hb.mono HB2.out.size))
      have X3 := hid (X2.out.later hb)
      have Q3 := hid (Q2.out.later hb)
      have O3 := hid (O2.out.below hb)
      clear x0 x1 x2 q0 q1
      clear hb
      have x0 := X3.out.cell 0
      have x1 := X3.out.cell 1
      have x2 := X3.out.cell 2
      have q0 := Q3.out.cell 0
      have q1 := Q3.out.cell 1
      simp only [List.getElem?_toArray, List.getElem?_cons_zero, List.getElem?_cons_succ] at x0 x1 x2 q0 q1
      go_wp2_with fail
      go_ret
      exact ⟨rfl, HB3.out⟩
    · by_cases c2 : 30 < l.length
      · go_wp2_with fail
        refine (fixed10_any _).mono ?_
        rintro e w3 ⟨rfl, hb⟩
        have HB3 := hid (HB2.out.trans (hb.mono HB2.out.size))
        have X3 := hid (X2.out.later hb)
        have Q3 := hid (Q2.out.later hb)
        have O3 := hid (O2.out.below hb)
        clear x0 x1 x2 q0 q1
        clear hb
        have x0 := X3.out.cell 0
        have x1 := X3.out.cell 1
        have x2 := X3.out.cell 2
        have q0 := Q3.out.cell 0
        have q1 := Q3.out.cell 1
        simp only [List.getElem?_toArray, List.getElem?_cons_zero, List.getElem?_cons_succ] at x0 x1 x2 q0 q1
        go_wp2_with fail
        go_ret
        exact ⟨rfl, HB3.out⟩
      · by_cases c3 : z < 1
        · go_wp2_with fail
          refine (fixed10_any _).mono ?_
          rintro e w3 ⟨rfl, hb⟩
          have HB3 := hid (HB2.out.trans (hb.mono HB2.out.size))
          have X3 := hid (X2.out.later hb)
          have Q3 := hid (Q2.out.later hb)
          have O3 := hid (O2.out.below hb)
          clear x0 x1 x2 q0 q1
          clear hb
          have x0 := X3.out.cell 0
          have x1 := X3.out.cell 1
          have x2 := X3.out.cell 2
          have q0 := Q3.out.cell 0
          have q1 := Q3.out.cell 1
          simp only [List.getElem?_toArray, List.getElem?_cons_zero, List.getElem?_cons_succ] at x0 x1 x2 q0 q1
          go_wp2_with fail
          go_ret
          exact ⟨rfl, HB3.out⟩
        · by_cases c4 : 64 < z
          · go_wp2_with fail
            refine (fixed10_any _).mono ?_
            rintro e w3 ⟨rfl, hb⟩
            have HB3 := hid (HB2.out.trans (hb.mono HB2.out.size))
            have X3 := hid (X2.out.later hb)
            have Q3 := hid (Q2.out.later hb)
            have O3 := hid (O2.out.below hb)
            clear x0 x1 x2 q0 q1
            clear hb
            have x0 := X3.out.cell 0
            have x1 := X3.out.cell 1
            have x2 := X3.out.cell 2
            have q0 := Q3.out.cell 0
            have q1 := Q3.out.cell 1
            simp only [List.getElem?_toArray, List.getElem?_cons_zero, List.getElem?_cons_succ] at x0 x1 x2 q0 q1
            go_wp2_with fail
            go_ret
            exact ⟨rfl, HB3.out⟩
          · by_cases c5 : y < 1
            · go_wp2_with fail
              refine (fixed10_any _).mono ?_
              rintro e w3 ⟨rfl, hb⟩
              have HB3 := hid (HB2.out.trans (hb.mono HB2.out.size))
              have X3 := hid (X2.out.later hb)
              have Q3 := hid (Q2.out.later hb)
              have O3 := hid (O2.out.below hb)
              clear x0 x1 x2 q0 q1
              clear hb
              have x0 := X3.out.cell 0
              have x1 := X3.out.cell 1
              have x2 := X3.out.cell 2
              have q0 := Q3.out.cell 0
              have q1 := Q3.out.cell 1
              simp only [List.getElem?_toArray, List.getElem?_cons_zero, List.getElem?_cons_succ] at x0 x1 x2 q0 q1
              go_wp2_with fail
              go_ret
              exact ⟨rfl, HB3.out⟩
            · by_cases c6 : 64 < y
              · go_wp2_with fail
                refine (fixed10_any _).mono ?_
                rintro e w3 ⟨rfl, hb⟩
                have HB3 := hid (HB2.out.trans (hb.mono HB2.out.size))
                have X3 := hid (X2.out.later hb)
                have Q3 := hid (Q2.out.later hb)
                have O3 := hid (O2.out.below hb)
                clear x0 x1 x2 q0 q1
                clear hb
                have x0 := X3.out.cell 0
                have x1 := X3.out.cell 1
                have x2 := X3.out.cell 2
                have q0 := Q3.out.cell 0
                have q1 := Q3.out.cell 1
                simp only [List.getElem?_toArray, List.getElem?_cons_zero, List.getElem?_cons_succ] at x0 x1 x2 q0 q1
                go_wp2_with fail
                go_ret
                exact ⟨rfl, HB3.out⟩
              · obtain ⟨k, rfl⟩ : ∃ k : Nat, z = k := ⟨z.toNat, by omega⟩
                have hk1 : 1 ≤ k := by omega
                have hk64 : k ≤ 64 := by omega
                obtain ⟨k2, rfl⟩ : ∃ k : Nat, y = k := ⟨y.toNat, by omega⟩
                have hk21 : 1 ≤ k2 := by omega
                have hk264 : k2 ≤ 64 := by omega
                go_wp2_with fail
                refine (new_any10 k hk1 hk64 _).mono ?_
                rintro en w3 ⟨p, q, rfl, hc, hp, hq, hb⟩
                have CP : Hid (w.heap.size ≤ p ∧ w.heap.size ≤ q) := ⟨Nat.le_trans HB2.out.size hp, Nat.le_trans HB2.out.size hq⟩
                have C3 := hid hc
                have HB3 := hid (then_w HB2.out hb)
                have X3 := hid (X2.out.later hb)
                have Q3 := hid (Q2.out.later hb)
                clear hb
                clear x0 x1 x2 q0 q1
                clear hc hp hq
                have x0 := X3.out.cell 0
                have x1 := X3.out.cell 1
                have x2 := X3.out.cell 2
                have q0 := Q3.out.cell 0
                have q1 := Q3.out.cell 1
                simp only [List.getElem?_toArray, List.getElem?_cons_zero, List.getElem?_cons_succ] at x0 x1 x2 q0 q1
                go_wp2_with fail
                refine (new_any10 k2 hk21 hk264 _).mono ?_
                rintro en w4 ⟨p2, q2, rfl, hc, hp, hq, hb⟩
                have DP : Hid (w.heap.size ≤ p2 ∧ w.heap.size ≤ q2) := ⟨Nat.le_trans HB3.out.size hp, Nat.le_trans HB3.out.size hq⟩
                have D4 := hid hc
                have HPP : Hid (p ≠ p2 ∧ q ≠ q2) := ⟨by have := C3.out.box.lt; omega, by have := C3.out.row.lt; omega⟩
                have HB4 := hid (then_w HB3.out hb)
                have X4 := hid (X3.out.later hb)
                have Q4 := hid (Q3.out.later hb)
                have C4 := hid (C3.out.later hb)
                clear hb
                clear x0 x1 x2 q0 q1
                clear hc hp hq
                have x0 := X4.out.cell 0
                have x1 := X4.out.cell 1
                have x2 := X4.out.cell 2
                have q0 := Q4.out.cell 0
                have q1 := Q4.out.cell 1
                simp only [List.getElem?_toArray, List.getElem?_cons_zero, List.getElem?_cons_succ] at x0 x1 x2 q0 q1
                go_wp2_with fail
                clear x0 x1 x2 q0 q1
                go_loopw [9, 10] (fun nv i wr => ∃ (j : Nat) (L M : List En) (n m n2 m2 : Int), j ≤ l.length ∧ i = .int .i64 j ∧ nv = .int .i64 n ∧ Hid (L.length = k) ∧ Hid (M.length = k2) ∧ Hid (So10 h L) ∧ Hid (So10 h M) ∧ Hid (n + m = j) ∧ Hid (n2 + m2 = j) ∧ 0 ≤ n ∧ 0 ≤ m ∧ 0 ≤ n2 ∧ 0 ≤ m2 ∧ Below w.heap.size w wr ∧ Lies wr w.heap.size 24 #[Value.slice A h.objs.length d, Value.int .i64 h.cap, Value.int .i64 h.last] ∧ Lies wr (w.heap.size + 1) 50 #[.int .i64 k, .slice B l.length e] ∧ Ca wr p q L n m ∧ Ca wr p2 q2 M n2 m2) (fun _ i _ => l.length + 1 - (intOf i).toNat)
                case atStart => exact ⟨0, nw10 k, nw10 k2, 0, 0, 0, 0, by omega, rfl, rfl, nw10_len k, nw10_len k2, so_new10 h k, so_new10 h k2, by show (0 : Int) + 0 = _; simp, by show (0 : Int) + 0 = _; simp, by omega, by omega, by omega, by omega, HB4.out, X4.out, Q4.out, C4.out, D4.out⟩
                case round =>
                  rename World => w50
                  obtain ⟨j, L, M, n, m, n2, m2, hjl, rfl, rfl, HLEN, HLENM, HSL, HSM, HNM, HNM2, hn0, hm0, hn20, hm20, hb, hx, hq, hc, hd⟩ := hrel
                  have HB50 := hid hb
                  have X50 := hid hx
                  have Q50 := hid hq
                  have C50 := hid hc
                  have D50 := hid hd
                  have HL1 : Hid (1 ≤ L.length) := by show _ ≤ _; rw [HLEN.out]; exact hk1
                  have HL64 : Hid (L.length ≤ 64) := by show _ ≤ _; rw [HLEN.out]; exact hk64
                  have HM1 : Hid (1 ≤ M.length) := by show _ ≤ _; rw [HLENM.out]; exact hk21
                  have HM64 : Hid (M.length ≤ 64) := by show _ ≤ _; rw [HLENM.out]; exact hk264
                  clear hb hx hq hc hd
                  have x0 := X50.out.cell 0
                  have x1 := X50.out.cell 1
                  have x2 := X50.out.cell 2
                  have q0 := Q50.out.cell 0
                  have q1 := Q50.out.cell 1
                  simp only [List.getElem?_toArray, List.getElem?_cons_zero, List.getElem?_cons_succ] at x0 x1 x2 q0 q1
                  by_cases hj : j < l.length
                  · obtain ⟨b, off, rfl, hlt, hcell⟩ := HAK.out (by omega)
                    have ha := hcell j _ (List.getElem?_eq_getElem (show j < l.length from hj))
                    obtain ⟨a, hal⟩ : ∃ a, a = l[j]'hj := ⟨_, rfl⟩
                    rw [← hal] at ha
                    obtain ⟨ac, as_, af, ao⟩ := a
                    simp only at ha
                    have HA := hid ha
                    have HBL := hid hlt
                    clear ha hal hcell hlt
                    have hjI : (j : Int) < (l.length : Int) := by omega
                    have hj0 : (0 : Int) ≤ (j : Int) := by omega
                    have hj30 : (j : Int) ≤ 30 := by omega
                    have hnN : 0 ≤ n ∧ n ≤ 1000 := by have := HNM.out; omega
                    have hmN : 0 ≤ m ∧ m ≤ 1000 := by have := HNM.out; omega
                    have hn2N : 0 ≤ n2 ∧ n2 ≤ 1000 := by have := HNM2.out; omega
                    have hm2N : 0 ≤ m2 ∧ m2 ≤ 1000 := by have := HNM2.out; omega
                    go_upto_region 10 with fail
                    have a0 := cell_later HB50.out HA.out.1
                    have a1 := cell_later HB50.out HA.out.2.1
                    have HD := hid ((Below.refl w50.heap.size w50).drew)
                    have CD := hid (C50.out.later HD.out)
                    refine wp_region_held_drew (S := (fun w' => w'.cell? ⟨w.heap.size, 0, none⟩ = some (.slice A h.objs.length d) ∧ w'.cell? ⟨w.heap.size, 1, none⟩ = some (.int .i64 h.cap) ∧ w'.cell? ⟨w.heap.size, 2, none⟩ = some (.int .i64 h.last) ∧ w'.cell? ⟨w.heap.size + 1, 1, none⟩ = some (.slice (some ⟨b, off, none⟩) l.length e) ∧ w'.cell? ⟨b, off + j * 4, none⟩ = some (.int .i64 ac) ∧ w'.cell? ⟨b, off + j * 4 + 1, none⟩ = some (.int .i64 as_))) (by kernel_rfl) ?_ (fun hH0 => ?_)
                    · exact ⟨x0, x1, x2, q1, a0, a1⟩
                    refine wpAnyH_take (i := 0) (oi := { dst := some 76, op := Go.Op.move (Go.Operand.tmp 7), type := 51, pos := "law.go:140", after := #[], guard := none }) (v := ?vv1) rfl (by kernel_rfl) (by kernel_rfl) (by kernel_rfl) (fun _ _ _ h => h) (Or.inl ⟨by rfl, ?hy1⟩) (by assumption) ?rr1
                    case hy1 => intro w hSw; (try dsimp only at hSw); go_simp; all_goals with_reducible rfl
                    try simp only [Act.put, List.setIfInBounds_toArray, List.set_cons_zero, List.set_cons_succ]
                    refine wpAnyH_take (i := 1) (oi := { dst := some 77, op := Go.Op.load 24 (Go.Operand.tmp 3), type := 24, pos := "law.go:140", after := #[], guard := none }) (v := ?vv2) rfl (by kernel_rfl) (by kernel_rfl) (by kernel_rfl) (fun _ _ _ h => h) (Or.inl ⟨by rfl, ?hy2⟩) (by assumption) ?rr2
                    case hy2 => intro w hSw; (try dsimp only at hSw); go_simp; all_goals with_reducible rfl
                    try simp only [Act.put, List.setIfInBounds_toArray, List.set_cons_zero, List.set_cons_succ]
                    refine wpAnyH_take (i := 2) (oi := { dst := some 78, op := Go.Op.fieldAddr 50 (Go.Operand.tmp 4) 1, type := 0, pos := "law.go:140", after := #[], guard := none }) (v := ?vv3) rfl (by kernel_rfl) (by kernel_rfl) (by kernel_rfl) (fun _ _ _ h => h) (Or.inl ⟨by rfl, ?hy3⟩) (by assumption) ?rr3
                    case hy3 => intro w hSw; (try dsimp only at hSw); go_simp; all_goals with_reducible rfl
                    try simp only [Act.put, List.setIfInBounds_toArray, List.set_cons_zero, List.set_cons_succ]
                    refine wpAnyH_take (i := 3) (oi := { dst := some 79, op := Go.Op.load 48 (Go.Operand.tmp 78), type := 48, pos := "law.go:140", after := #[{ on := 2, ground := Go.Ground.data }], guard := none }) (v := ?vv4) rfl (by kernel_rfl) (by kernel_rfl) (by kernel_rfl) (fun _ _ _ h => h) (Or.inl ⟨by rfl, ?hy4⟩) (by assumption) ?rr4
                    case hy4 => intro w hSw; (try dsimp only at hSw); go_simp; all_goals with_reducible rfl
                    try simp only [Act.put, List.setIfInBounds_toArray, List.set_cons_zero, List.set_cons_succ]
                    refine wpAnyH_take (i := 4) (oi := { dst := some 80, op := Go.Op.move (Go.Operand.tmp 10), type := 3, pos := "law.go:140", after := #[], guard := none }) (v := ?vv5) rfl (by kernel_rfl) (by kernel_rfl) (by kernel_rfl) (fun _ _ _ h => h) (Or.inl ⟨by rfl, ?hy5⟩) (by assumption) ?rr5
                    case hy5 => intro w hSw; (try dsimp only at hSw); go_simp; all_goals with_reducible rfl
                    try simp only [Act.put, List.setIfInBounds_toArray, List.set_cons_zero, List.set_cons_succ]
                    refine wpAnyH_take (i := 5) (oi := { dst := some 81, op := Go.Op.indexAddr 48 (Go.Operand.tmp 79) (Go.Operand.tmp 80), type := 0, pos := "law.go:140", after := #[{ on := 3, ground := Go.Ground.data }, { on := 4, ground := Go.Ground.data }], guard := none }) (v := ?vv6) rfl (by kernel_rfl) (by kernel_rfl) (by kernel_rfl) (fun _ _ _ h => h) (Or.inl ⟨by rfl, ?hy6⟩) (by assumption) ?rr6
                    case hy6 => intro w hSw; (try dsimp only at hSw); go_simp; all_goals with_reducible rfl
                    try simp only [Act.put, List.setIfInBounds_toArray, List.set_cons_zero, List.set_cons_succ]
                    refine wpAnyH_take (i := 6) (oi := { dst := some 82, op := Go.Op.fieldAddr 56 (Go.Operand.tmp 81) 0, type := 0, pos := "law.go:140", after := #[{ on := 5, ground := Go.Ground.data }], guard := none }) (v := ?vv7) rfl (by kernel_rfl) (by kernel_rfl) (by kernel_rfl) (fun _ _ _ h => h) (Or.inl ⟨by rfl, ?hy7⟩) (by assumption) ?rr7
                    case hy7 => intro w hSw; (try dsimp only at hSw); go_simp; all_goals with_reducible rfl
                    try simp only [Act.put, List.setIfInBounds_toArray, List.set_cons_zero, List.set_cons_succ]
                    refine wpAnyH_take (i := 7) (oi := { dst := some 83, op := Go.Op.load 3 (Go.Operand.tmp 82), type := 3, pos := "law.go:140", after := #[{ on := 6, ground := Go.Ground.data }], guard := none }) (v := ?vv8) rfl (by kernel_rfl) (by kernel_rfl) (by kernel_rfl) (fun _ _ _ h => h) (Or.inl ⟨by rfl, ?hy8⟩) (by assumption) ?rr8
                    case hy8 => intro w hSw; (try dsimp only at hSw); go_simp; all_goals with_reducible rfl
                    try simp only [Act.put, List.setIfInBounds_toArray, List.set_cons_zero, List.set_cons_succ]
                    refine wpAnyH_take (i := 8) (oi := { dst := some 84, op := Go.Op.fieldAddr 50 (Go.Operand.tmp 4) 1, type := 0, pos := "law.go:140", after := #[], guard := none }) (v := ?vv9) rfl (by kernel_rfl) (by kernel_rfl) (by kernel_rfl) (fun _ _ _ h => h) (Or.inl ⟨by rfl, ?hy9⟩) (by assumption) ?rr9
                    case hy9 => intro w hSw; (try dsimp only at hSw); go_simp; all_goals with_reducible rfl
                    try simp only [Act.put, List.setIfInBounds_toArray, List.set_cons_zero, List.set_cons_succ]
                    refine wpAnyH_take (i := 9) (oi := { dst := some 85, op := Go.Op.load 48 (Go.Operand.tmp 84), type := 48, pos := "law.go:140", after := #[{ on := 8, ground := Go.Ground.data }], guard := none }) (v := ?vv10) rfl (by kernel_rfl) (by kernel_rfl) (by kernel_rfl) (fun _ _ _ h => h) (Or.inl ⟨by rfl, ?hy10⟩) (by assumption) ?rr10
                    case hy10 => intro w hSw; (try dsimp only at hSw); go_simp; all_goals with_reducible rfl
                    try simp only [Act.put, List.setIfInBounds_toArray, List.set_cons_zero, List.set_cons_succ]
                    refine wpAnyH_take (i := 10) (oi := { dst := some 86, op := Go.Op.move (Go.Operand.tmp 10), type := 3, pos := "law.go:140", after := #[], guard := none }) (v := ?vv11) rfl (by kernel_rfl) (by kernel_rfl) (by kernel_rfl) (fun _ _ _ h => h) (Or.inl ⟨by rfl, ?hy11⟩) (by assumption) ?rr11
                    case hy11 => intro w hSw; (try dsimp only at hSw); go_simp; all_goals with_reducible rfl
                    try simp only [Act.put, List.setIfInBounds_toArray, List.set_cons_zero, List.set_cons_succ]
                    refine wpAnyH_take (i := 11) (oi := { dst := some 87, op := Go.Op.indexAddr 48 (Go.Operand.tmp 85) (Go.Operand.tmp 86), type := 0, pos := "law.go:140", after := #[{ on := 9, ground := Go.Ground.data }, { on := 10, ground := Go.Ground.data }], guard := none }) (v := ?vv12) rfl (by kernel_rfl) (by kernel_rfl) (by kernel_rfl) (fun _ _ _ h => h) (Or.inl ⟨by rfl, ?hy12⟩) (by assumption) ?rr12
                    case hy12 => intro w hSw; (try dsimp only at hSw); go_simp; all_goals with_reducible rfl
                    try simp only [Act.put, List.setIfInBounds_toArray, List.set_cons_zero, List.set_cons_succ]
                    refine wpAnyH_take (i := 12) (oi := { dst := some 88, op := Go.Op.fieldAddr 56 (Go.Operand.tmp 87) 1, type := 0, pos := "law.go:140", after := #[{ on := 11, ground := Go.Ground.data }], guard := none }) (v := ?vv13) rfl (by kernel_rfl) (by kernel_rfl) (by kernel_rfl) (fun _ _ _ h => h) (Or.inl ⟨by rfl, ?hy13⟩) (by assumption) ?rr13
                    case hy13 => intro w hSw; (try dsimp only at hSw); go_simp; all_goals with_reducible rfl
                    try simp only [Act.put, List.setIfInBounds_toArray, List.set_cons_zero, List.set_cons_succ]
                    refine wpAnyH_take (i := 13) (oi := { dst := some 89, op := Go.Op.load 3 (Go.Operand.tmp 88), type := 3, pos := "law.go:140", after := #[{ on := 12, ground := Go.Ground.data }], guard := none }) (v := ?vv14) rfl (by kernel_rfl) (by kernel_rfl) (by kernel_rfl) (fun _ _ _ h => h) (Or.inl ⟨by rfl, ?hy14⟩) (by assumption) ?rr14
                    case hy14 => intro w hSw; (try dsimp only at hSw); go_simp; all_goals with_reducible rfl
                    try simp only [Act.put, List.setIfInBounds_toArray, List.set_cons_zero, List.set_cons_succ]
                    refine wpAnyH_ready (rs := [14]) (by kernel_rfl) (by simp) ?_
                    refine AllReadyH.cons (i := 14) (o := { dst := some 90, op := Go.Op.call { callee := Go.Callee.value (Go.Operand.func 41), args := #[Go.Operand.tmp 76, Go.Operand.tmp 77, Go.Operand.tmp 83, Go.Operand.tmp 89], argTypes := #[51, 24, 3, 3] }, type := 57, pos := "law.go:140", after := #[{ on := 0, ground := Go.Ground.data }, { on := 1, ground := Go.Ground.data }, { on := 7, ground := Go.Ground.data }, { on := 13, ground := Go.Ground.data }], guard := none }) rfl (fun K hK => ?_) AllReadyH.nil
                    go_simp
                    go_at_call 41
                    refine (find_any10 CD.out HL1.out HL64.out h ac as_ A d (fun w' ho' => HSO.out.below (((only2_below HD.out).trans ho').from_ HB50.out CP.out.1 CP.out.2 HB50.out.size)) HF.out hnN hmN).mono ?_
                    rintro en w51 hfd
                    obtain ⟨n1, m1, rfl, hc, ho, hso1, hl1, hs1, hp1, hq1⟩ := hfd.so HSL.out HL1.out
                    have HLK : Hid ((cb10 L h ac as_).length = k) := by show _ = _; rw [hl1]; exact HLEN.out
                    obtain ⟨L1, hL1⟩ : ∃ L1, L1 = cb10 L h ac as_ := ⟨_, rfl⟩
                    rw [← hL1] at hc hso1 HLK
                    have HSO1 := hid hso1
                    have HS1 : Hid (n1 + m1 = (j : Int) + 1) := by show _ = _; have := HNM.out; omega
                    have HS1B : Hid (n1 ≤ n + 1) := by show _ ≤ _; omega
                    obtain ⟨v, at_, en_, hlk⟩ : ∃ v a e, lk9 h ac as_ = (v, a, e) := ⟨_, _, _, rfl⟩
                    have HLK9 := hid hlk
                    rw [hlk]
                    clear hL1 hso1 hl1 hs1 hlk
                    unfold tu10
                    refine hK.out _ _ ?_ (fun hH1 => ?_)
                    · exact ⟨ho.cell (lies_ne X50.out C50.out.box (by decide)) (lies_ne X50.out C50.out.row (by decide)) hH0.1, ho.cell (lies_ne X50.out C50.out.box (by decide)) (lies_ne X50.out C50.out.row (by decide)) hH0.2.1, ho.cell (lies_ne X50.out C50.out.box (by decide)) (lies_ne X50.out C50.out.row (by decide)) hH0.2.2.1, ho.cell (lies_ne Q50.out C50.out.box (by decide)) (lies_ne Q50.out C50.out.row (by decide)) hH0.2.2.2.1, ho.cell (Nat.ne_of_lt (Nat.lt_of_lt_of_le HBL.out CP.out.1)) (Nat.ne_of_lt (Nat.lt_of_lt_of_le HBL.out CP.out.2)) hH0.2.2.2.2.1, ho.cell (Nat.ne_of_lt (Nat.lt_of_lt_of_le HBL.out CP.out.1)) (Nat.ne_of_lt (Nat.lt_of_lt_of_le HBL.out CP.out.2)) hH0.2.2.2.2.2⟩
                    clear hK K
                    try simp only []
                    refine wpAnyH_take (i := 15) (oi := { dst := some 75, op := Go.Op.move (Go.Operand.tmp 90), type := 57, pos := "law.go:140", after := #[{ on := 14, ground := Go.Ground.data }], guard := none }) (v := ?vv15) rfl (by kernel_rfl) (by kernel_rfl) (by kernel_rfl) (fun _ _ _ h => h) (Or.inl ⟨by rfl, ?hy15⟩) (by assumption) ?rr15
                    case hy15 => intro w hSw; (try dsimp only at hSw); go_simp; all_goals with_reducible rfl
                    try simp only [Act.put, List.setIfInBounds_toArray, List.set_cons_zero, List.set_cons_succ]
                    refine wpAnyH_take (i := 16) (oi := { dst := some 91, op := Go.Op.extract (Go.Operand.tmp 75) 0, type := 3, pos := "law.go:140", after := #[{ on := 15, ground := Go.Ground.data }], guard := none }) (v := ?vv16) rfl (by kernel_rfl) (by kernel_rfl) (by kernel_rfl) (fun _ _ _ h => h) (Or.inl ⟨by rfl, ?hy16⟩) (by assumption) ?rr16
                    case hy16 => intro w hSw; (try dsimp only at hSw); go_simp; all_goals with_reducible rfl
                    try simp only [Act.put, List.setIfInBounds_toArray, List.set_cons_zero, List.set_cons_succ]
                    refine wpAnyH_take (i := 17) (oi := { dst := some 92, op := Go.Op.extract (Go.Operand.tmp 75) 1, type := 3, pos := "law.go:140", after := #[{ on := 15, ground := Go.Ground.data }, { on := 19, ground := Go.Ground.gcOnly Go.Departure.lateStores }], guard := none }) (v := ?vv17) rfl (by kernel_rfl) (by kernel_rfl) (by kernel_rfl) (fun _ _ _ h => h) (Or.inl ⟨by rfl, ?hy17⟩) (by assumption) ?rr17
                    case hy17 => intro w hSw; (try dsimp only at hSw); go_simp; all_goals with_reducible rfl
                    try simp only [Act.put, List.setIfInBounds_toArray, List.set_cons_zero, List.set_cons_succ]
                    refine wpAnyH_take (i := 18) (oi := { dst := some 93, op := Go.Op.extract (Go.Operand.tmp 75) 2, type := 29, pos := "law.go:140", after := #[{ on := 15, ground := Go.Ground.data }, { on := 20, ground := Go.Ground.gcOnly Go.Departure.lateStores }], guard := none }) (v := ?vv18) rfl (by kernel_rfl) (by kernel_rfl) (by kernel_rfl) (fun _ _ _ h => h) (Or.inl ⟨by rfl, ?hy18⟩) (by assumption) ?rr18
                    case hy18 => intro w hSw; (try dsimp only at hSw); go_simp; all_goals with_reducible rfl
                    try simp only [Act.put, List.setIfInBounds_toArray, List.set_cons_zero, List.set_cons_succ]
                    refine wpAnyH_take (i := 19) (oi := { dst := some 11, op := Go.Op.assign (Go.Operand.tmp 91), type := 3, pos := "law.go:140", after := #[{ on := 16, ground := Go.Ground.data }, { on := 14, ground := Go.Ground.chain }, { on := 0, ground := Go.Ground.phase }, { on := 1, ground := Go.Ground.phase }, { on := 2, ground := Go.Ground.phase }, { on := 3, ground := Go.Ground.phase }, { on := 4, ground := Go.Ground.phase }, { on := 5, ground := Go.Ground.phase }, { on := 6, ground := Go.Ground.phase }, { on := 7, ground := Go.Ground.phase }, { on := 8, ground := Go.Ground.phase }, { on := 9, ground := Go.Ground.phase }, { on := 10, ground := Go.Ground.phase }, { on := 11, ground := Go.Ground.phase }, { on := 12, ground := Go.Ground.phase }, { on := 13, ground := Go.Ground.phase }, { on := 14, ground := Go.Ground.phase }, { on := 15, ground := Go.Ground.phase }, { on := 16, ground := Go.Ground.phase }, { on := 17, ground := Go.Ground.textOnly Go.Departure.lateStores }, { on := 18, ground := Go.Ground.textOnly Go.Departure.lateStores }], guard := none }) (v := ?vv19) rfl (by kernel_rfl) (by kernel_rfl) (by kernel_rfl) (fun _ _ _ h => h) (Or.inl ⟨by rfl, ?hy19⟩) (by assumption) ?rr19
                    case hy19 => intro w hSw; (try dsimp only at hSw); go_simp; all_goals with_reducible rfl
                    try simp only [Act.put, List.setIfInBounds_toArray, List.set_cons_zero, List.set_cons_succ]
                    refine wpAnyH_take (i := 20) (oi := { dst := some 12, op := Go.Op.assign (Go.Operand.tmp 92), type := 3, pos := "law.go:140", after := #[{ on := 17, ground := Go.Ground.data }, { on := 19, ground := Go.Ground.chain }, { on := 0, ground := Go.Ground.phase }, { on := 1, ground := Go.Ground.phase }, { on := 2, ground := Go.Ground.phase }, { on := 3, ground := Go.Ground.phase }, { on := 4, ground := Go.Ground.phase }, { on := 5, ground := Go.Ground.phase }, { on := 6, ground := Go.Ground.phase }, { on := 7, ground := Go.Ground.phase }, { on := 8, ground := Go.Ground.phase }, { on := 9, ground := Go.Ground.phase }, { on := 10, ground := Go.Ground.phase }, { on := 11, ground := Go.Ground.phase }, { on := 12, ground := Go.Ground.phase }, { on := 13, ground := Go.Ground.phase }, { on := 14, ground := Go.Ground.phase }, { on := 15, ground := Go.Ground.phase }, { on := 16, ground := Go.Ground.phase }, { on := 17, ground := Go.Ground.phase }, { on := 18, ground := Go.Ground.textOnly Go.Departure.lateStores }, { on := 19, ground := Go.Ground.phase }], guard := none }) (v := ?vv20) rfl (by kernel_rfl) (by kernel_rfl) (by kernel_rfl) (fun _ _ _ h => h) (Or.inl ⟨by rfl, ?hy20⟩) (by assumption) ?rr20
                    case hy20 => intro w hSw; (try dsimp only at hSw); go_simp; all_goals with_reducible rfl
                    try simp only [Act.put, List.setIfInBounds_toArray, List.set_cons_zero, List.set_cons_succ]
                    refine wpAnyH_take (i := 21) (oi := { dst := some 13, op := Go.Op.assign (Go.Operand.tmp 93), type := 29, pos := "law.go:140", after := #[{ on := 18, ground := Go.Ground.data }, { on := 20, ground := Go.Ground.chain }, { on := 0, ground := Go.Ground.phase }, { on := 1, ground := Go.Ground.phase }, { on := 2, ground := Go.Ground.phase }, { on := 3, ground := Go.Ground.phase }, { on := 4, ground := Go.Ground.phase }, { on := 5, ground := Go.Ground.phase }, { on := 6, ground := Go.Ground.phase }, { on := 7, ground := Go.Ground.phase }, { on := 8, ground := Go.Ground.phase }, { on := 9, ground := Go.Ground.phase }, { on := 10, ground := Go.Ground.phase }, { on := 11, ground := Go.Ground.phase }, { on := 12, ground := Go.Ground.phase }, { on := 13, ground := Go.Ground.phase }, { on := 14, ground := Go.Ground.phase }, { on := 15, ground := Go.Ground.phase }, { on := 16, ground := Go.Ground.phase }, { on := 17, ground := Go.Ground.phase }, { on := 18, ground := Go.Ground.phase }, { on := 19, ground := Go.Ground.phase }, { on := 20, ground := Go.Ground.phase }], guard := none }) (v := ?vv21) rfl (by kernel_rfl) (by kernel_rfl) (by kernel_rfl) (fun _ _ _ h => h) (Or.inl ⟨by rfl, ?hy21⟩) (by assumption) ?rr21
                    case hy21 => intro w hSw; (try dsimp only at hSw); go_simp; all_goals with_reducible rfl
                    try simp only [Act.put, List.setIfInBounds_toArray, List.set_cons_zero, List.set_cons_succ]
                    refine wpAnyH_done (by kernel_rfl) ?_ _
                    have ho := (only2_below HD.out).trans ho
                    have HB51 := hid (ho.from_ HB50.out CP.out.1 CP.out.2 HB50.out.size)
                    have X51 := hid (ho.lies X50.out (lies_ne X50.out C50.out.box (by decide)) (lies_ne X50.out C50.out.row (by decide)))
                    have Q51 := hid (ho.lies Q50.out (lies_ne Q50.out C50.out.box (by decide)) (lies_ne Q50.out C50.out.row (by decide)))
                    have C51 := hid hc
                    have D51 := hid (D50.out.far C50.out ho (fun e => HPP.out.1 e.symm) (fun e => HPP.out.2 e.symm))
                    clear hc ho
                    clear x0 x1 x2 q0 q1
                    clear hH0 hH1 a0 a1 HD CD
                    have x0 := X51.out.cell 0
                    have x1 := X51.out.cell 1
                    have x2 := X51.out.cell 2
                    have q0 := Q51.out.cell 0
                    have q1 := Q51.out.cell 1
                    simp only [List.getElem?_toArray, List.getElem?_cons_zero, List.getElem?_cons_succ] at x0 x1 x2 q0 q1
                    go_upto_region 11 with fail
                    have a0 := cell_later HB51.out HA.out.1
                    have a1 := cell_later HB51.out HA.out.2.1
                    have HD := hid ((Below.refl w51.heap.size w51).drew)
                    have CD := hid (D51.out.later HD.out)
                    refine wp_region_held_drew (S := (fun w' => w'.cell? ⟨w.heap.size, 0, none⟩ = some (.slice A h.objs.length d) ∧ w'.cell? ⟨w.heap.size, 1, none⟩ = some (.int .i64 h.cap) ∧ w'.cell? ⟨w.heap.size, 2, none⟩ = some (.int .i64 h.last) ∧ w'.cell? ⟨w.heap.size + 1, 1, none⟩ = some (.slice (some ⟨b, off, none⟩) l.length e) ∧ w'.cell? ⟨b, off + j * 4, none⟩ = some (.int .i64 ac) ∧ w'.cell? ⟨b, off + j * 4 + 1, none⟩ = some (.int .i64 as_))) (by kernel_rfl) ?_ (fun hH0 => ?_)
                    · exact ⟨x0, x1, x2, q1, a0, a1⟩
                    refine wpAnyH_take (i := 0) (oi := { dst := some 95, op := Go.Op.move (Go.Operand.tmp 8), type := 51, pos := "law.go:141", after := #[], guard := none }) (v := ?vv22) rfl (by kernel_rfl) (by kernel_rfl) (by kernel_rfl) (fun _ _ _ h => h) (Or.inl ⟨by rfl, ?hy22⟩) (by assumption) ?rr22
                    case hy22 => intro w hSw; (try dsimp only at hSw); go_simp; all_goals with_reducible rfl
                    try simp only [Act.put, List.setIfInBounds_toArray, List.set_cons_zero, List.set_cons_succ]
                    refine wpAnyH_take (i := 1) (oi := { dst := some 96, op := Go.Op.load 24 (Go.Operand.tmp 3), type := 24, pos := "law.go:141", after := #[], guard := none }) (v := ?vv23) rfl (by kernel_rfl) (by kernel_rfl) (by kernel_rfl) (fun _ _ _ h => h) (Or.inl ⟨by rfl, ?hy23⟩) (by assumption) ?rr23
                    case hy23 => intro w hSw; (try dsimp only at hSw); go_simp; all_goals with_reducible rfl
                    try simp only [Act.put, List.setIfInBounds_toArray, List.set_cons_zero, List.set_cons_succ]
                    refine wpAnyH_take (i := 2) (oi := { dst := some 97, op := Go.Op.fieldAddr 50 (Go.Operand.tmp 4) 1, type := 0, pos := "law.go:141", after := #[], guard := none }) (v := ?vv24) rfl (by kernel_rfl) (by kernel_rfl) (by kernel_rfl) (fun _ _ _ h => h) (Or.inl ⟨by rfl, ?hy24⟩) (by assumption) ?rr24
                    case hy24 => intro w hSw; (try dsimp only at hSw); go_simp; all_goals with_reducible rfl
                    try simp only [Act.put, List.setIfInBounds_toArray, List.set_cons_zero, List.set_cons_succ]
                    refine wpAnyH_take (i := 3) (oi := { dst := some 98, op := Go.Op.load 48 (Go.Operand.tmp 97), type := 48, pos := "law.go:141", after := #[{ on := 2, ground := Go.Ground.data }], guard := none }) (v := ?vv25) rfl (by kernel_rfl) (by kernel_rfl) (by kernel_rfl) (fun _ _ _ h => h) (Or.inl ⟨by rfl, ?hy25⟩) (by assumption) ?rr25
                    case hy25 => intro w hSw; (try dsimp only at hSw); go_simp; all_goals with_reducible rfl
                    try simp only [Act.put, List.setIfInBounds_toArray, List.set_cons_zero, List.set_cons_succ]
                    refine wpAnyH_take (i := 4) (oi := { dst := some 99, op := Go.Op.move (Go.Operand.tmp 10), type := 3, pos := "law.go:141", after := #[], guard := none }) (v := ?vv26) rfl (by kernel_rfl) (by kernel_rfl) (by kernel_rfl) (fun _ _ _ h => h) (Or.inl ⟨by rfl, ?hy26⟩) (by assumption) ?rr26
                    case hy26 => intro w hSw; (try dsimp only at hSw); go_simp; all_goals with_reducible rfl
                    try simp only [Act.put, List.setIfInBounds_toArray, List.set_cons_zero, List.set_cons_succ]
                    refine wpAnyH_take (i := 5) (oi := { dst := some 100, op := Go.Op.indexAddr 48 (Go.Operand.tmp 98) (Go.Operand.tmp 99), type := 0, pos := "law.go:141", after := #[{ on := 3, ground := Go.Ground.data }, { on := 4, ground := Go.Ground.data }], guard := none }) (v := ?vv27) rfl (by kernel_rfl) (by kernel_rfl) (by kernel_rfl) (fun _ _ _ h => h) (Or.inl ⟨by rfl, ?hy27⟩) (by assumption) ?rr27
                    case hy27 => intro w hSw; (try dsimp only at hSw); go_simp; all_goals with_reducible rfl
                    try simp only [Act.put, List.setIfInBounds_toArray, List.set_cons_zero, List.set_cons_succ]
                    refine wpAnyH_take (i := 6) (oi := { dst := some 101, op := Go.Op.fieldAddr 56 (Go.Operand.tmp 100) 0, type := 0, pos := "law.go:141", after := #[{ on := 5, ground := Go.Ground.data }], guard := none }) (v := ?vv28) rfl (by kernel_rfl) (by kernel_rfl) (by kernel_rfl) (fun _ _ _ h => h) (Or.inl ⟨by rfl, ?hy28⟩) (by assumption) ?rr28
                    case hy28 => intro w hSw; (try dsimp only at hSw); go_simp; all_goals with_reducible rfl
                    try simp only [Act.put, List.setIfInBounds_toArray, List.set_cons_zero, List.set_cons_succ]
                    refine wpAnyH_take (i := 7) (oi := { dst := some 102, op := Go.Op.load 3 (Go.Operand.tmp 101), type := 3, pos := "law.go:141", after := #[{ on := 6, ground := Go.Ground.data }], guard := none }) (v := ?vv29) rfl (by kernel_rfl) (by kernel_rfl) (by kernel_rfl) (fun _ _ _ h => h) (Or.inl ⟨by rfl, ?hy29⟩) (by assumption) ?rr29
                    case hy29 => intro w hSw; (try dsimp only at hSw); go_simp; all_goals with_reducible rfl
                    try simp only [Act.put, List.setIfInBounds_toArray, List.set_cons_zero, List.set_cons_succ]
                    refine wpAnyH_take (i := 8) (oi := { dst := some 103, op := Go.Op.fieldAddr 50 (Go.Operand.tmp 4) 1, type := 0, pos := "law.go:141", after := #[], guard := none }) (v := ?vv30) rfl (by kernel_rfl) (by kernel_rfl) (by kernel_rfl) (fun _ _ _ h => h) (Or.inl ⟨by rfl, ?hy30⟩) (by assumption) ?rr30
                    case hy30 => intro w hSw; (try dsimp only at hSw); go_simp; all_goals with_reducible rfl
                    try simp only [Act.put, List.setIfInBounds_toArray, List.set_cons_zero, List.set_cons_succ]
                    refine wpAnyH_take (i := 9) (oi := { dst := some 104, op := Go.Op.load 48 (Go.Operand.tmp 103), type := 48, pos := "law.go:141", after := #[{ on := 8, ground := Go.Ground.data }], guard := none }) (v := ?vv31) rfl (by kernel_rfl) (by kernel_rfl) (by kernel_rfl) (fun _ _ _ h => h) (Or.inl ⟨by rfl, ?hy31⟩) (by assumption) ?rr31
                    case hy31 => intro w hSw; (try dsimp only at hSw); go_simp; all_goals with_reducible rfl
                    try simp only [Act.put, List.setIfInBounds_toArray, List.set_cons_zero, List.set_cons_succ]
                    refine wpAnyH_take (i := 10) (oi := { dst := some 105, op := Go.Op.move (Go.Operand.tmp 10), type := 3, pos := "law.go:141", after := #[], guard := none }) (v := ?vv32) rfl (by kernel_rfl) (by kernel_rfl) (by kernel_rfl) (fun _ _ _ h => h) (Or.inl ⟨by rfl, ?hy32⟩) (by assumption) ?rr32
                    case hy32 => intro w hSw; (try dsimp only at hSw); go_simp; all_goals with_reducible rfl
                    try simp only [Act.put, List.setIfInBounds_toArray, List.set_cons_zero, List.set_cons_succ]
                    refine wpAnyH_take (i := 11) (oi := { dst := some 106, op := Go.Op.indexAddr 48 (Go.Operand.tmp 104) (Go.Operand.tmp 105), type := 0, pos := "law.go:141", after := #[{ on := 9, ground := Go.Ground.data }, { on := 10, ground := Go.Ground.data }], guard := none }) (v := ?vv33) rfl (by kernel_rfl) (by kernel_rfl) (by kernel_rfl) (fun _ _ _ h => h) (Or.inl ⟨by rfl, ?hy33⟩) (by assumption) ?rr33
                    case hy33 => intro w hSw; (try dsimp only at hSw); go_simp; all_goals with_reducible rfl
                    try simp only [Act.put, List.setIfInBounds_toArray, List.set_cons_zero, List.set_cons_succ]
                    refine wpAnyH_take (i := 12) (oi := { dst := some 107, op := Go.Op.fieldAddr 56 (Go.Operand.tmp 106) 1, type := 0, pos := "law.go:141", after := #[{ on := 11, ground := Go.Ground.data }], guard := none }) (v := ?vv34) rfl (by kernel_rfl) (by kernel_rfl) (by kernel_rfl) (fun _ _ _ h => h) (Or.inl ⟨by rfl, ?hy34⟩) (by assumption) ?rr34
                    case hy34 => intro w hSw; (try dsimp only at hSw); go_simp; all_goals with_reducible rfl
                    try simp only [Act.put, List.setIfInBounds_toArray, List.set_cons_zero, List.set_cons_succ]
                    refine wpAnyH_take (i := 13) (oi := { dst := some 108, op := Go.Op.load 3 (Go.Operand.tmp 107), type := 3, pos := "law.go:141", after := #[{ on := 12, ground := Go.Ground.data }], guard := none }) (v := ?vv35) rfl (by kernel_rfl) (by kernel_rfl) (by kernel_rfl) (fun _ _ _ h => h) (Or.inl ⟨by rfl, ?hy35⟩) (by assumption) ?rr35
                    case hy35 => intro w hSw; (try dsimp only at hSw); go_simp; all_goals with_reducible rfl
                    try simp only [Act.put, List.setIfInBounds_toArray, List.set_cons_zero, List.set_cons_succ]
                    refine wpAnyH_ready (rs := [14]) (by kernel_rfl) (by simp) ?_
                    refine AllReadyH.cons (i := 14) (o := { dst := some 109, op := Go.Op.call { callee := Go.Callee.value (Go.Operand.func 41), args := #[Go.Operand.tmp 95, Go.Operand.tmp 96, Go.Operand.tmp 102, Go.Operand.tmp 108], argTypes := #[51, 24, 3, 3] }, type := 57, pos := "law.go:141", after := #[{ on := 0, ground := Go.Ground.data }, { on := 1, ground := Go.Ground.data }, { on := 7, ground := Go.Ground.data }, { on := 13, ground := Go.Ground.data }], guard := none }) rfl (fun K hK => ?_) AllReadyH.nil
                    go_simp
                    go_at_call 41
                    refine (find_any10 CD.out HM1.out HM64.out h ac as_ A d (fun w' ho' => HSO.out.below (((only2_below HD.out).trans ho').from_ HB51.out DP.out.1 DP.out.2 HB51.out.size)) HF.out hn2N hm2N).mono ?_
                    rintro en w52 hfd
                    obtain ⟨n3, m3, rfl, hc, ho, hso3, hl3, hs3, hp3, hq3⟩ := hfd.so HSM.out HM1.out
                    have HLK3 : Hid ((cb10 M h ac as_).length = k2) := by show _ = _; rw [hl3]; exact HLENM.out
                    obtain ⟨M1, hM1⟩ : ∃ L1, L1 = cb10 M h ac as_ := ⟨_, rfl⟩
                    rw [← hM1] at hc hso3 HLK3
                    have HSO3 := hid hso3
                    have HS3 : Hid (n3 + m3 = (j : Int) + 1) := by show _ = _; have := HNM2.out; omega
                    rw [HLK9.out]
                    clear hM1 hso3 hl3 hs3
                    unfold tu10
                    refine hK.out _ _ ?_ (fun hH1 => ?_)
                    · exact ⟨ho.cell (lies_ne X51.out D51.out.box (by decide)) (lies_ne X51.out D51.out.row (by decide)) hH0.1, ho.cell (lies_ne X51.out D51.out.box (by decide)) (lies_ne X51.out D51.out.row (by decide)) hH0.2.1, ho.cell (lies_ne X51.out D51.out.box (by decide)) (lies_ne X51.out D51.out.row (by decide)) hH0.2.2.1, ho.cell (lies_ne Q51.out D51.out.box (by decide)) (lies_ne Q51.out D51.out.row (by decide)) hH0.2.2.2.1, ho.cell (Nat.ne_of_lt (Nat.lt_of_lt_of_le HBL.out DP.out.1)) (Nat.ne_of_lt (Nat.lt_of_lt_of_le HBL.out DP.out.2)) hH0.2.2.2.2.1, ho.cell (Nat.ne_of_lt (Nat.lt_of_lt_of_le HBL.out DP.out.1)) (Nat.ne_of_lt (Nat.lt_of_lt_of_le HBL.out DP.out.2)) hH0.2.2.2.2.2⟩
                    clear hK K
                    try simp only []
                    refine wpAnyH_take (i := 15) (oi := { dst := some 94, op := Go.Op.move (Go.Operand.tmp 109), type := 57, pos := "law.go:141", after := #[{ on := 14, ground := Go.Ground.data }], guard := none }) (v := ?vv36) rfl (by kernel_rfl) (by kernel_rfl) (by kernel_rfl) (fun _ _ _ h => h) (Or.inl ⟨by rfl, ?hy36⟩) (by assumption) ?rr36
                    case hy36 => intro w hSw; (try dsimp only at hSw); go_simp; all_goals with_reducible rfl
                    try simp only [Act.put, List.setIfInBounds_toArray, List.set_cons_zero, List.set_cons_succ]
                    refine wpAnyH_take (i := 16) (oi := { dst := some 110, op := Go.Op.extract (Go.Operand.tmp 94) 0, type := 3, pos := "law.go:141", after := #[{ on := 15, ground := Go.Ground.data }], guard := none }) (v := ?vv37) rfl (by kernel_rfl) (by kernel_rfl) (by kernel_rfl) (fun _ _ _ h => h) (Or.inl ⟨by rfl, ?hy37⟩) (by assumption) ?rr37
                    case hy37 => intro w hSw; (try dsimp only at hSw); go_simp; all_goals with_reducible rfl
                    try simp only [Act.put, List.setIfInBounds_toArray, List.set_cons_zero, List.set_cons_succ]
                    refine wpAnyH_take (i := 17) (oi := { dst := some 111, op := Go.Op.extract (Go.Operand.tmp 94) 1, type := 3, pos := "law.go:141", after := #[{ on := 15, ground := Go.Ground.data }, { on := 19, ground := Go.Ground.gcOnly Go.Departure.lateStores }], guard := none }) (v := ?vv38) rfl (by kernel_rfl) (by kernel_rfl) (by kernel_rfl) (fun _ _ _ h => h) (Or.inl ⟨by rfl, ?hy38⟩) (by assumption) ?rr38
                    case hy38 => intro w hSw; (try dsimp only at hSw); go_simp; all_goals with_reducible rfl
                    try simp only [Act.put, List.setIfInBounds_toArray, List.set_cons_zero, List.set_cons_succ]
                    refine wpAnyH_take (i := 18) (oi := { dst := some 112, op := Go.Op.extract (Go.Operand.tmp 94) 2, type := 29, pos := "law.go:141", after := #[{ on := 15, ground := Go.Ground.data }, { on := 20, ground := Go.Ground.gcOnly Go.Departure.lateStores }], guard := none }) (v := ?vv39) rfl (by kernel_rfl) (by kernel_rfl) (by kernel_rfl) (fun _ _ _ h => h) (Or.inl ⟨by rfl, ?hy39⟩) (by assumption) ?rr39
                    case hy39 => intro w hSw; (try dsimp only at hSw); go_simp; all_goals with_reducible rfl
                    try simp only [Act.put, List.setIfInBounds_toArray, List.set_cons_zero, List.set_cons_succ]
                    refine wpAnyH_take (i := 19) (oi := { dst := some 14, op := Go.Op.assign (Go.Operand.tmp 110), type := 3, pos := "law.go:141", after := #[{ on := 16, ground := Go.Ground.data }, { on := 14, ground := Go.Ground.chain }, { on := 0, ground := Go.Ground.phase }, { on := 1, ground := Go.Ground.phase }, { on := 2, ground := Go.Ground.phase }, { on := 3, ground := Go.Ground.phase }, { on := 4, ground := Go.Ground.phase }, { on := 5, ground := Go.Ground.phase }, { on := 6, ground := Go.Ground.phase }, { on := 7, ground := Go.Ground.phase }, { on := 8, ground := Go.Ground.phase }, { on := 9, ground := Go.Ground.phase }, { on := 10, ground := Go.Ground.phase }, { on := 11, ground := Go.Ground.phase }, { on := 12, ground := Go.Ground.phase }, { on := 13, ground := Go.Ground.phase }, { on := 14, ground := Go.Ground.phase }, { on := 15, ground := Go.Ground.phase }, { on := 16, ground := Go.Ground.phase }, { on := 17, ground := Go.Ground.textOnly Go.Departure.lateStores }, { on := 18, ground := Go.Ground.textOnly Go.Departure.lateStores }], guard := none }) (v := ?vv40) rfl (by kernel_rfl) (by kernel_rfl) (by kernel_rfl) (fun _ _ _ h => h) (Or.inl ⟨by rfl, ?hy40⟩) (by assumption) ?rr40
                    case hy40 => intro w hSw; (try dsimp only at hSw); go_simp; all_goals with_reducible rfl
                    try simp only [Act.put, List.setIfInBounds_toArray, List.set_cons_zero, List.set_cons_succ]
                    refine wpAnyH_take (i := 20) (oi := { dst := some 15, op := Go.Op.assign (Go.Operand.tmp 111), type := 3, pos := "law.go:141", after := #[{ on := 17, ground := Go.Ground.data }, { on := 19, ground := Go.Ground.chain }, { on := 0, ground := Go.Ground.phase }, { on := 1, ground := Go.Ground.phase }, { on := 2, ground := Go.Ground.phase }, { on := 3, ground := Go.Ground.phase }, { on := 4, ground := Go.Ground.phase }, { on := 5, ground := Go.Ground.phase }, { on := 6, ground := Go.Ground.phase }, { on := 7, ground := Go.Ground.phase }, { on := 8, ground := Go.Ground.phase }, { on := 9, ground := Go.Ground.phase }, { on := 10, ground := Go.Ground.phase }, { on := 11, ground := Go.Ground.phase }, { on := 12, ground := Go.Ground.phase }, { on := 13, ground := Go.Ground.phase }, { on := 14, ground := Go.Ground.phase }, { on := 15, ground := Go.Ground.phase }, { on := 16, ground := Go.Ground.phase }, { on := 17, ground := Go.Ground.phase }, { on := 18, ground := Go.Ground.textOnly Go.Departure.lateStores }, { on := 19, ground := Go.Ground.phase }], guard := none }) (v := ?vv41) rfl (by kernel_rfl) (by kernel_rfl) (by kernel_rfl) (fun _ _ _ h => h) (Or.inl ⟨by rfl, ?hy41⟩) (by assumption) ?rr41
                    case hy41 => intro w hSw; (try dsimp only at hSw); go_simp; all_goals with_reducible rfl
                    try simp only [Act.put, List.setIfInBounds_toArray, List.set_cons_zero, List.set_cons_succ]
                    refine wpAnyH_take (i := 21) (oi := { dst := some 16, op := Go.Op.assign (Go.Operand.tmp 112), type := 29, pos := "law.go:141", after := #[{ on := 18, ground := Go.Ground.data }, { on := 20, ground := Go.Ground.chain }, { on := 0, ground := Go.Ground.phase }, { on := 1, ground := Go.Ground.phase }, { on := 2, ground := Go.Ground.phase }, { on := 3, ground := Go.Ground.phase }, { on := 4, ground := Go.Ground.phase }, { on := 5, ground := Go.Ground.phase }, { on := 6, ground := Go.Ground.phase }, { on := 7, ground := Go.Ground.phase }, { on := 8, ground := Go.Ground.phase }, { on := 9, ground := Go.Ground.phase }, { on := 10, ground := Go.Ground.phase }, { on := 11, ground := Go.Ground.phase }, { on := 12, ground := Go.Ground.phase }, { on := 13, ground := Go.Ground.phase }, { on := 14, ground := Go.Ground.phase }, { on := 15, ground := Go.Ground.phase }, { on := 16, ground := Go.Ground.phase }, { on := 17, ground := Go.Ground.phase }, { on := 18, ground := Go.Ground.phase }, { on := 19, ground := Go.Ground.phase }, { on := 20, ground := Go.Ground.phase }], guard := none }) (v := ?vv42) rfl (by kernel_rfl) (by kernel_rfl) (by kernel_rfl) (fun _ _ _ h => h) (Or.inl ⟨by rfl, ?hy42⟩) (by assumption) ?rr42
                    case hy42 => intro w hSw; (try dsimp only at hSw); go_simp; all_goals with_reducible rfl
                    try simp only [Act.put, List.setIfInBounds_toArray, List.set_cons_zero, List.set_cons_succ]
                    refine wpAnyH_done (by kernel_rfl) ?_ _
                    have ho := (only2_below HD.out).trans ho
                    have HB52 := hid (ho.from_ HB51.out DP.out.1 DP.out.2 HB51.out.size)
                    have X52 := hid (ho.lies X51.out (lies_ne X51.out D51.out.box (by decide)) (lies_ne X51.out D51.out.row (by decide)))
                    have Q52 := hid (ho.lies Q51.out (lies_ne Q51.out D51.out.box (by decide)) (lies_ne Q51.out D51.out.row (by decide)))
                    have C52 := hid (C51.out.far D51.out ho HPP.out.1 HPP.out.2)
                    have D52 := hid hc
                    clear hc ho
                    clear x0 x1 x2 q0 q1
                    clear hH0 hH1 a0 a1 HD CD
                    have x0 := X52.out.cell 0
                    have x1 := X52.out.cell 1
                    have x2 := X52.out.cell 2
                    have q0 := Q52.out.cell 0
                    have q1 := Q52.out.cell 1
                    simp only [List.getElem?_toArray, List.getElem?_cons_zero, List.getElem?_cons_succ] at x0 x1 x2 q0 q1
                    go_wp2_with fail
                    refine (hits_any C52.out (by rw [HLK.out]; exact hk1)).mono ?_
                    rintro en w53 ⟨rfl, hb⟩
                    have HB53 := hid (then_w HB52.out hb)
                    have X53 := hid (X52.out.later hb)
                    have Q53 := hid (Q52.out.later hb)
                    have C53 := hid (C52.out.later hb)
                    have D53 := hid (D52.out.later hb)
                    clear hb
                    clear x0 x1 x2 q0 q1
                    have x0 := X53.out.cell 0
                    have x1 := X53.out.cell 1
                    have x2 := X53.out.cell 2
                    have q0 := Q53.out.cell 0
                    have q1 := Q53.out.cell 1
                    simp only [List.getElem?_toArray, List.getElem?_cons_zero, List.getElem?_cons_succ] at x0 x1 x2 q0 q1
                    have w2_ : IntKind.i64.wrap (n + 1) = n + 1 := IntWalk.i64_in _ ⟨by omega, by omega⟩
                    have w5_ : IntKind.i64.wrap ((j : Int) + 1) = (j : Int) + 1 := IntWalk.i64_in _ ⟨by omega, by omega⟩
                    have w6_ : ¬ n1 < n := by omega
                    have w7_ : ¬ n + 1 < n1 := by have := HS1B.out; omega
                    go_wp2_with fail
                    go_roundw
                    case rel => exact ⟨j + 1, L1, M1, n1, m1, n3, m3, by omega, by go_num, by go_num, HLK, HLK3, HSO1, HSO3, HS1, HS3, by omega, by omega, by omega, by omega, HB53.out, X53.out, Q53.out, C53.out, D53.out⟩
                    case measure => simp only [intOf]; omega
                  · have hjI : ¬ (j : Int) < (l.length : Int) := by omega
                    go_wp2_with fail
                    go_ret
                    exact ⟨rfl, HB50.out⟩
end Go.Proofs.Ytcahdhocilmoeaa
