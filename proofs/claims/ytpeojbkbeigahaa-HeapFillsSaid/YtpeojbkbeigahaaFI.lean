/- HeapFills walked: whatever heap, kind and size, it answers true. -/
import Derived.Test.YtpeojbkbeigahaaMF
import Derived.Test.YtpeojbkbeigahaaN
namespace Go.Proofs.Ytpeojbkbeigahaa
open Go.RowKit
set_option maxRecDepth 100000
theorem below_in {w v w' : World} (h : Below w.heap.size w v) (hb : Below v.heap.size v w') : Below w.heap.size w w' := h.trans (hb.mono h.size)
theorem may_cap {h : Hp} (hm : mayB h = true) : (h.objs.length : Int) ≤ h.cap := by
  unfold mayB at hm
  simp only [Bool.and_eq_true, decide_eq_true_eq] at hm
  exact hm.1.1.2.2
theorem own_off3 {w : World} {base g : Nat} {A : Option Addr} {c : Nat} {ls : List LO} {cs : Array Value} (h : OwnH w base A c ls) (hB : Lies w g 24 cs) (x y z : Value) :
    OwnH (((w.setCell ⟨g, 0, none⟩ x).setCell ⟨g, 1, none⟩ y).setCell ⟨g, 2, none⟩ z) base A c ls :=
  ((h.off hB 0 x).off (hB.set_ 0 x) 1 y).off ((hB.set_ 0 x).set_ 1 y) 2 z
set_option maxHeartbeats 8000000 in
theorem fills_any (h : Hp) (kind size : Int) (A : Option Addr) (c : Nat) (w : World) (hs : ObsR w A h.objs) (fit : h.Fit) :
    Calls Try.prog 7 #[.agg #[.slice A h.objs.length c, .int .i64 h.cap, .int .i64 h.last], .int .i64 kind, .int .i64 size] w fun e w' => e = .returned (.bool true) ∧ Below w.heap.size w w' := by
  have HB0 := hid (below_alloc w (.cells #[Value.slice A h.objs.length c, Value.int .i64 h.cap, Value.int .i64 h.last] 24))
  have X0 := hid (Lies.new w 24 #[Value.slice A h.objs.length c, Value.int .i64 h.cap, Value.int .i64 h.last])
  have O0 := hid (hs.below HB0.out)
  have HF := hid fit
  clear hs fit
  go_enter Try.func7, Try.ntmps7
  go_wp2_with fail
  refine (fixed_any _).mono ?_
  rintro e w1 ⟨rfl, hb⟩
  have HB1 := hid (HB0.out.trans (hb.mono HB0.out.size))
  have X1 := hid (X0.out.later hb)
  have O1 := hid (O0.out.below hb)
  clear hb
  have x0 := X1.out.cell 0
  have x1 := X1.out.cell 1
  have x2 := X1.out.cell 2
  simp only [List.getElem?_toArray, List.getElem?_cons_zero, List.getElem?_cons_succ] at x0 x1 x2
  go_wp2_with fail
  refine (small_ok h A c _ O1.out HF.out).mono ?_
  rintro e w2 ⟨sm, rfl, hb⟩
  have HB2 := hid (HB1.out.trans (hb.mono HB1.out.size))
  have X2 := hid (X1.out.later hb)
  have O2 := hid (O1.out.below hb)
  clear x0 x1 x2
  clear hb
  have x0 := X2.out.cell 0
  have x1 := X2.out.cell 1
  have x2 := X2.out.cell 2
  simp only [List.getElem?_toArray, List.getElem?_cons_zero, List.getElem?_cons_succ] at x0 x1 x2
  cases sm
  · go_wp2_with fail
    refine (fixed_any _).mono ?_
    rintro e w3 ⟨rfl, hb⟩
    have HB3 := hid (HB2.out.trans (hb.mono HB2.out.size))
    have X3 := hid (X2.out.later hb)
    have O3 := hid (O2.out.below hb)
    clear x0 x1 x2
    clear hb
    have x0 := X3.out.cell 0
    have x1 := X3.out.cell 1
    have x2 := X3.out.cell 2
    simp only [List.getElem?_toArray, List.getElem?_cons_zero, List.getElem?_cons_succ] at x0 x1 x2
    go_wp2_with fail
    go_ret
    exact ⟨rfl, HB3.out⟩
  · go_wp2_with fail
    refine (rmay_any h A c _ O2.out HF.out).mono ?_
    rintro e w3 ⟨rfl, hb⟩
    have HB3 := hid (HB2.out.trans (hb.mono HB2.out.size))
    have X3 := hid (X2.out.later hb)
    have O3 := hid (O2.out.below hb)
    clear x0 x1 x2
    clear hb
    have x0 := X3.out.cell 0
    have x1 := X3.out.cell 1
    have x2 := X3.out.cell 2
    simp only [List.getElem?_toArray, List.getElem?_cons_zero, List.getElem?_cons_succ] at x0 x1 x2
    cases hm : mayB h
    · go_wp2_with fail
      refine (fixed_any _).mono ?_
      rintro e w4 ⟨rfl, hb⟩
      have HB4 := hid (HB3.out.trans (hb.mono HB3.out.size))
      have X4 := hid (X3.out.later hb)
      have O4 := hid (O3.out.below hb)
      clear x0 x1 x2
      clear hb
      have x0 := X4.out.cell 0
      have x1 := X4.out.cell 1
      have x2 := X4.out.cell 2
      simp only [List.getElem?_toArray, List.getElem?_cons_zero, List.getElem?_cons_succ] at x0 x1 x2
      go_wp2_with fail
      go_ret
      exact ⟨rfl, HB4.out⟩
    · have HM := hid hm
      have hle := may_len hm
      clear hm
      by_cases c1 : 40 < h.cap
      · go_wp2_with fail
        refine (fixed_any _).mono ?_
        rintro e w4 ⟨rfl, hb⟩
        have HB4 := hid (HB3.out.trans (hb.mono HB3.out.size))
        have X4 := hid (X3.out.later hb)
        have O4 := hid (O3.out.below hb)
        clear x0 x1 x2
        clear hb
        have x0 := X4.out.cell 0
        have x1 := X4.out.cell 1
        have x2 := X4.out.cell 2
        simp only [List.getElem?_toArray, List.getElem?_cons_zero, List.getElem?_cons_succ] at x0 x1 x2
        go_wp2_with fail
        go_ret
        exact ⟨rfl, HB4.out⟩
      · by_cases c2 : h.objs.length = 0
        · go_wp2_with fail
          refine (fixed_any _).mono ?_
          rintro e w4 ⟨rfl, hb⟩
          have HB4 := hid (HB3.out.trans (hb.mono HB3.out.size))
          have X4 := hid (X3.out.later hb)
          have O4 := hid (O3.out.below hb)
          clear x0 x1 x2
          clear hb
          have x0 := X4.out.cell 0
          have x1 := X4.out.cell 1
          have x2 := X4.out.cell 2
          simp only [List.getElem?_toArray, List.getElem?_cons_zero, List.getElem?_cons_succ] at x0 x1 x2
          go_wp2_with fail
          go_ret
          exact ⟨rfl, HB4.out⟩
        · by_cases c3 : kind < 0
          · go_wp2_with fail
            refine (fixed_any _).mono ?_
            rintro e w4 ⟨rfl, hb⟩
            have HB4 := hid (HB3.out.trans (hb.mono HB3.out.size))
            have X4 := hid (X3.out.later hb)
            have O4 := hid (O3.out.below hb)
            clear x0 x1 x2
            clear hb
            have x0 := X4.out.cell 0
            have x1 := X4.out.cell 1
            have x2 := X4.out.cell 2
            simp only [List.getElem?_toArray, List.getElem?_cons_zero, List.getElem?_cons_succ] at x0 x1 x2
            go_wp2_with fail
            go_ret
            exact ⟨rfl, HB4.out⟩
          · by_cases c4 : 2 < kind
            · go_wp2_with fail
              refine (fixed_any _).mono ?_
              rintro e w4 ⟨rfl, hb⟩
              have HB4 := hid (HB3.out.trans (hb.mono HB3.out.size))
              have X4 := hid (X3.out.later hb)
              have O4 := hid (O3.out.below hb)
              clear x0 x1 x2
              clear hb
              have x0 := X4.out.cell 0
              have x1 := X4.out.cell 1
              have x2 := X4.out.cell 2
              simp only [List.getElem?_toArray, List.getElem?_cons_zero, List.getElem?_cons_succ] at x0 x1 x2
              go_wp2_with fail
              go_ret
              exact ⟨rfl, HB4.out⟩
            · by_cases c5 : size < 0
              · go_wp2_with fail
                refine (fixed_any _).mono ?_
                rintro e w4 ⟨rfl, hb⟩
                have HB4 := hid (HB3.out.trans (hb.mono HB3.out.size))
                have X4 := hid (X3.out.later hb)
                have O4 := hid (O3.out.below hb)
                clear x0 x1 x2
                clear hb
                have x0 := X4.out.cell 0
                have x1 := X4.out.cell 1
                have x2 := X4.out.cell 2
                simp only [List.getElem?_toArray, List.getElem?_cons_zero, List.getElem?_cons_succ] at x0 x1 x2
                go_wp2_with fail
                go_ret
                exact ⟨rfl, HB4.out⟩
              · by_cases c6 : 4 < size
                · go_wp2_with fail
                  refine (fixed_any _).mono ?_
                  rintro e w4 ⟨rfl, hb⟩
                  have HB4 := hid (HB3.out.trans (hb.mono HB3.out.size))
                  have X4 := hid (X3.out.later hb)
                  have O4 := hid (O3.out.below hb)
                  clear x0 x1 x2
                  clear hb
                  have x0 := X4.out.cell 0
                  have x1 := X4.out.cell 1
                  have x2 := X4.out.cell 2
                  simp only [List.getElem?_toArray, List.getElem?_cons_zero, List.getElem?_cons_succ] at x0 x1 x2
                  go_wp2_with fail
                  go_ret
                  exact ⟨rfl, HB4.out⟩
                · by_cases c7 : kind = 2
                  · by_cases c8 : 0 < size
                    · go_wp2_with fail
                      refine (fixed_any _).mono ?_
                      rintro e w4 ⟨rfl, hb⟩
                      have HB4 := hid (HB3.out.trans (hb.mono HB3.out.size))
                      have X4 := hid (X3.out.later hb)
                      have O4 := hid (O3.out.below hb)
                      clear x0 x1 x2
                      clear hb
                      have x0 := X4.out.cell 0
                      have x1 := X4.out.cell 1
                      have x2 := X4.out.cell 2
                      simp only [List.getElem?_toArray, List.getElem?_cons_zero, List.getElem?_cons_succ] at x0 x1 x2
                      go_wp2_with fail
                      go_ret
                      exact ⟨rfl, HB4.out⟩
                    · subst c7
                      have SZ : Hid (Sized 2 size) := ⟨by omega, by omega, by omega, by omega, fun e => by omega⟩
                      have hcp := may_cap HM.out
                      have hz37 : ((h.objs.length : Int) == 0) = false := by simpa using c2
                      have HAL := hid (below_alloc w3 (.cells #[Value.slice A h.objs.length c, Value.int .i64 h.cap, Value.int .i64 h.last] 24))
                      have HB4 := hid (HB3.out.trans (HAL.out.mono HB3.out.size))
                      have X4 := hid (X3.out.later HAL.out)
                      have T4 := hid (Lies.new w3 24 #[Value.slice A h.objs.length c, Value.int .i64 h.cap, Value.int .i64 h.last])
                      have O4 := hid (O3.out.below HAL.out)
                      have hw03 : w.heap.size < w3.heap.size := X3.out.lt
                      have h0 : 0 < h.objs.length := by omega
                      clear HB0 HB1 HB2 X0 X1 X2 O0 O1 O2 O3 X3
                      go_wp2_with fail
                      have H0 := hid h0
                      clear h0 c2
                      go_loopw [8] (fun i wr => ∃ (n : Nat) (a : Hp) (Aa : Option Addr) (ca : Nat), h.objs.length ≤ n ∧ (n : Int) ≤ h.cap ∧ i = .int .i64 n ∧ a.objs.length = n ∧ a.cap = h.cap ∧ mayB a = true ∧ ObsR wr Aa a.objs ∧ Lies wr w3.heap.size 24 #[Value.slice Aa a.objs.length ca, Value.int .i64 a.cap, Value.int .i64 a.last] ∧ Lies wr w.heap.size 24 #[Value.slice A h.objs.length c, Value.int .i64 h.cap, Value.int .i64 h.last] ∧ Below w.heap.size w wr) (fun i _ => (h.cap - intOf i).toNat)
                      case atStart => exact ⟨h.objs.length, h, A, c, Nat.le_refl _, hcp, rfl, rfl, rfl, HM.out, O4.out, T4.out, X4.out, HB4.out⟩
                      case round =>
                        clear x0 x1 x2 HAL HB4 X4 T4 O4
                        obtain ⟨n, a, Aa, ca, hn0, hnc, rfl, hal, hac, ham, hao, hta, htx, hbw⟩ := hrel
                        rename World => wo
                        have HAM := hid ham
                        have HAO := hid hao
                        have HTA := hid hta
                        have HTX := hid htx
                        have HW := hid hbw
                        have x1 := htx.cell 1
                        have t0 := hta.cell 0
                        have t1 := hta.cell 1
                        have t2 := hta.cell 2
                        simp only [List.getElem?_toArray, List.getElem?_cons_zero, List.getElem?_cons_succ] at x1 t0 t1 t2
                        have hn40 : n ≤ 40 := by omega
                        clear ham hao hta htx hbw
                        by_cases hlt : (n : Int) < h.cap
                        · have hcap : (a.objs.length : Int) < a.cap := by rw [hal, hac]; exact hlt
                          have ha0 : 0 < a.objs.length := by have := H0.out; omega
                          obtain ⟨f1, f2, f3⟩ := fills_step HAM.out SZ.out ha0 hcap
                          have hbm := alH_may HAM.out SZ.out ha0 hcap
                          obtain ⟨-, g2, g3⟩ := newO_ok SZ.out ha0
                          have hbl : (alH a 0 2 size).objs.length = n + 1 := by simp [alH, hal]
                          have hbc : (alH a 0 2 size).cap = h.cap := hac
                          have hbn : (alH a 0 2 size).objs[n]? = some (newO a 0 2 size) := by rw [← hal]; simp [alH]
                          have hbi : ∀ i o, a.objs[i]? = some o → (alH a 0 2 size).objs[i]? = some o := fun i o ho => by
                            have hi := (List.getElem?_eq_some_iff.1 ho).1
                            simp only [alH]
                            rw [List.getElem?_append_left hi]; exact ho
                          obtain ⟨b, hbe⟩ : ∃ b, b = alH a 0 2 size := ⟨_, rfl⟩
                          obtain ⟨o, hoe⟩ : ∃ o, o = newO a 0 2 size := ⟨_, rfl⟩
                          rw [← hbe] at f3 hbm hbl hbc hbn hbi
                          rw [← hoe] at hbn g2 g3
                          have HA := alloc_any a 0 2 size Aa ca wo HAO.out (may_fit HAM.out)
                          have f2' : 2 * (a.objs.length : Int) = 2 * (n : Int) := by rw [hal]
                          rw [f1, f2, f3, f2'] at HA
                          have HAA := hid HA
                          have HBM := hid hbm
                          have HBN := hid hbn
                          have HBI := hid hbi
                          have HBL := hid hbl
                          have HBC := hid hbc
                          have G2 := hid g2
                          have hn96 : ((b.objs.length : Int) != (n : Int) + 1) = false := by rw [hbl]; simp
                          have hsz : ((o.slots.length : Int) + (o.text.size : Int) != size) = false := by simpa using g3
                          have HN96 := hid hn96
                          have HSZ := hid hsz
                          have hnb : n < b.objs.length := by omega
                          have hw2 : IntKind.i64.wrap (2 * (n : Int)) = 2 * (n : Int) := IntWalk.i64_in _ (by omega)
                          have hw1 : IntKind.i64.wrap ((n : Int) + 1) = (n : Int) + 1 := IntWalk.i64_in _ (by omega)
                          have hw3 : IntKind.i64.wrap ((o.slots.length : Int) + (o.text.size : Int)) = (o.slots.length : Int) + (o.text.size : Int) := IntWalk.i64_in _ (by have := SZ.out.s4; omega)
                          have HLN := hid hal
                          clear HA hbe hoe f1 f2 f2' f3 hbm hbn hbi g2 g3 hbc hn96 hsz hbl hal hac hcap
                          go_wp2_with fail
                          refine HAA.out.mono ?_
                          rintro e w5 ⟨Ab, cb, lb, rfl, hlb, hob, hb5⟩
                          have HAL := hid (below_alloc w5 (.cells #[Value.slice Ab b.objs.length cb, Value.int .i64 b.cap, Value.int .i64 b.last] 24))
                          have OW := hid (hob.later HAL.out)
                          have OB := hid ((own_obs hob hlb).below HAL.out)
                          have OA := hid ((HAO.out.below hb5).below HAL.out)
                          have TA := hid ((HTA.out.later hb5).later HAL.out)
                          have TX := hid ((HTX.out.later hb5).later HAL.out)
                          have TB := hid (Lies.new w5 24 #[Value.slice Ab b.objs.length cb, Value.int .i64 b.cap, Value.int .i64 b.last])
                          have HW5 := hid (below_in (below_in HW.out hb5) HAL.out)
                          have HLB := hid hlb
                          have h35 : w3.heap.size < w5.heap.size := Nat.lt_of_lt_of_le HTA.out.lt hb5.size
                          obtain ⟨w6, hw6⟩ : ∃ w6, w6 = w5.alloc (.cells #[Value.slice Ab b.objs.length cb, Value.int .i64 b.cap, Value.int .i64 b.last] 24) := ⟨_, rfl⟩
                          rw [← hw6] at OW OB OA TA TX TB HW5
                          clear hob hlb hb5 HAL t0 t1 t2 x1
                          obtain ⟨bb, ob, rfl, hbb, hcb⟩ := OB.out (by omega)
                          obtain ⟨S, ds, hobj, hin, -, -⟩ := hcb n o HBN.out
                          obtain ⟨k0, k1, k2, k3, k4, k5⟩ := hobj
                          rw [G2.out] at k1
                          have z0 := TB.out.cell 0
                          have z1 := TB.out.cell 1
                          have z2 := TB.out.cell 2
                          simp only [List.getElem?_toArray, List.getElem?_cons_zero, List.getElem?_cons_succ] at z0 z1 z2
                          have HCB := hid hcb
                          clear hcb hin k0 k4 k5
                          go_wp2_with fail
                          rw [← hw6]
                          clear hw6
                          refine wp_region_held_drew (S := (fun w' => w'.cell? ⟨w5.heap.size, 0, none⟩ = some (.slice (some ⟨bb, ob, none⟩) b.objs.length cb) ∧ w'.cell? ⟨w5.heap.size, 1, none⟩ = some (.int .i64 b.cap) ∧ w'.cell? ⟨w5.heap.size, 2, none⟩ = some (.int .i64 b.last) ∧ w'.cell? ⟨bb, ob + n * 6 + 1, none⟩ = some (.int .i64 2) ∧ w'.cell? ⟨bb, ob + n * 6 + 2, none⟩ = some (.slice S o.slots.length ds) ∧ w'.cell? ⟨bb, ob + n * 6 + 3, none⟩ = some (.string o.text) ∧ Below w6.heap.size w6 w')) (by kernel_rfl) ?_ (fun hHeld => ?_)
                          · exact ⟨z0, z1, z2, k1, k2, k3, (Below.refl _ _).drew⟩
                          refine wpAnyH_take (i := 0) (oi := { dst := some 82, op := Go.Op.move (Go.Operand.tmp 11), type := 29, pos := "law.go:110", after := #[], guard := none }) (v := ?vv1) rfl (by kernel_rfl) (by kernel_rfl) (by kernel_rfl) (fun _ _ _ h => h) (Or.inl ⟨by rfl, ?hy1⟩) (by assumption) ?rr1
                          case hy1 => intro w hSw; (try dsimp only at hSw); go_simp; all_goals with_reducible rfl
                          try simp only [Act.put, List.setIfInBounds_toArray, List.set_cons_zero, List.set_cons_succ]
                          refine wpAnyH_take (i := 1) (oi := { dst := some 83, op := Go.Op.binOp Go.BinOp.neq 29 (Go.Operand.tmp 82) (Go.Operand.const (Go.Value.int Go.IntKind.i64 0)) 29, type := 4, pos := "law.go:110", after := #[{ on := 0, ground := Go.Ground.data }], guard := none }) (v := ?vv2) rfl (by kernel_rfl) (by kernel_rfl) (by kernel_rfl) (fun _ _ _ h => h) (Or.inl ⟨by rfl, ?hy2⟩) (by assumption) ?rr2
                          case hy2 => intro w hSw; (try dsimp only at hSw); go_simp; all_goals with_reducible rfl
                          try simp only [Act.put, List.setIfInBounds_toArray, List.set_cons_zero, List.set_cons_succ]
                          refine wpAnyH_take (i := 2) (oi := { dst := some 84, op := Go.Op.move (Go.Operand.tmp 83), type := 4, pos := "law.go:110", after := #[{ on := 1, ground := Go.Ground.data }], guard := none }) (v := ?vv3) rfl (by kernel_rfl) (by kernel_rfl) (by kernel_rfl) (fun _ _ _ h => h) (Or.inl ⟨by rfl, ?hy3⟩) (by assumption) ?rr3
                          case hy3 => intro w hSw; (try dsimp only at hSw); go_simp; all_goals with_reducible rfl
                          try simp only [Act.put, List.setIfInBounds_toArray, List.set_cons_zero, List.set_cons_succ]
                          refine wpAnyH_take (i := 3) (oi := { dst := some 85, op := Go.Op.move (Go.Operand.tmp 10), type := 3, pos := "law.go:110", after := #[{ on := 2, ground := Go.Ground.guard }], guard := some (2, false) }) (v := ?vv4) rfl (by kernel_rfl) (by kernel_rfl) (by kernel_rfl) (fun _ _ _ h => h) (Or.inl ⟨by rfl, ?hy4⟩) (by assumption) ?rr4
                          case hy4 => intro w hSw; (try dsimp only at hSw); go_simp; all_goals with_reducible rfl
                          try simp only [Act.put, List.setIfInBounds_toArray, List.set_cons_zero, List.set_cons_succ]
                          refine wpAnyH_take (i := 4) (oi := { dst := some 86, op := Go.Op.move (Go.Operand.tmp 8), type := 3, pos := "law.go:110", after := #[{ on := 2, ground := Go.Ground.guard }], guard := some (2, false) }) (v := ?vv5) rfl (by kernel_rfl) (by kernel_rfl) (by kernel_rfl) (fun _ _ _ h => h) (Or.inl ⟨by rfl, ?hy5⟩) (by assumption) ?rr5
                          case hy5 => intro w hSw; (try dsimp only at hSw); go_simp; all_goals with_reducible rfl
                          try simp only [Act.put, List.setIfInBounds_toArray, List.set_cons_zero, List.set_cons_succ]
                          refine wpAnyH_take (i := 5) (oi := { dst := some 87, op := Go.Op.binOp Go.BinOp.mul 3 (Go.Operand.const (Go.Value.int Go.IntKind.i64 2)) (Go.Operand.tmp 86) 3, type := 3, pos := "law.go:110", after := #[{ on := 4, ground := Go.Ground.data }, { on := 2, ground := Go.Ground.guard }], guard := some (2, false) }) (v := ?vv6) rfl (by kernel_rfl) (by kernel_rfl) (by kernel_rfl) (fun _ _ _ h => h) (Or.inl ⟨by rfl, ?hy6⟩) (by assumption) ?rr6
                          case hy6 => intro w hSw; (try dsimp only at hSw); go_simp; all_goals with_reducible rfl
                          try simp only [Act.put, List.setIfInBounds_toArray, List.set_cons_zero, List.set_cons_succ]
                          refine wpAnyH_take (i := 6) (oi := { dst := some 88, op := Go.Op.binOp Go.BinOp.neq 3 (Go.Operand.tmp 85) (Go.Operand.tmp 87) 3, type := 4, pos := "law.go:110", after := #[{ on := 3, ground := Go.Ground.data }, { on := 5, ground := Go.Ground.data }, { on := 2, ground := Go.Ground.guard }], guard := some (2, false) }) (v := ?vv7) rfl (by kernel_rfl) (by kernel_rfl) (by kernel_rfl) (fun _ _ _ h => h) (Or.inl ⟨by rfl, ?hy7⟩) (by assumption) ?rr7
                          case hy7 => intro w hSw; (try dsimp only at hSw); go_simp; all_goals with_reducible rfl
                          try simp only [Act.put, List.setIfInBounds_toArray, List.set_cons_zero, List.set_cons_succ]
                          refine wpAnyH_take (i := 7) (oi := { dst := some 89, op := Go.Op.pick (Go.Operand.tmp 84) (Go.Operand.const (Go.Value.bool true)) (Go.Operand.tmp 88), type := 4, pos := "law.go:110", after := #[{ on := 2, ground := Go.Ground.data }, { on := 6, ground := Go.Ground.data }], guard := none }) (v := ?vv8) rfl (by kernel_rfl) (by kernel_rfl) (by kernel_rfl) (fun _ _ _ h => h) (Or.inl ⟨by rfl, ?hy8⟩) (by assumption) ?rr8
                          case hy8 => intro w hSw; (try dsimp only at hSw); go_simp; all_goals with_reducible rfl
                          try simp only [Act.put, List.setIfInBounds_toArray, List.set_cons_zero, List.set_cons_succ]
                          refine wpAnyH_take (i := 8) (oi := { dst := some 90, op := Go.Op.move (Go.Operand.tmp 89), type := 4, pos := "law.go:110", after := #[{ on := 7, ground := Go.Ground.data }, { on := 2, ground := Go.Ground.chain }], guard := none }) (v := ?vv9) rfl (by kernel_rfl) (by kernel_rfl) (by kernel_rfl) (fun _ _ _ h => h) (Or.inl ⟨by rfl, ?hy9⟩) (by assumption) ?rr9
                          case hy9 => intro w hSw; (try dsimp only at hSw); go_simp; all_goals with_reducible rfl
                          try simp only [Act.put, List.setIfInBounds_toArray, List.set_cons_zero, List.set_cons_succ]
                          refine wpAnyH_take (i := 9) (oi := { dst := some 91, op := Go.Op.fieldAddr 24 (Go.Operand.tmp 9) 0, type := 0, pos := "law.go:110", after := #[{ on := 8, ground := Go.Ground.guard }], guard := some (8, false) }) (v := ?vv10) rfl (by kernel_rfl) (by kernel_rfl) (by kernel_rfl) (fun _ _ _ h => h) (Or.inl ⟨by rfl, ?hy10⟩) (by assumption) ?rr10
                          case hy10 => intro w hSw; (try dsimp only at hSw); go_simp; all_goals with_reducible rfl
                          try simp only [Act.put, List.setIfInBounds_toArray, List.set_cons_zero, List.set_cons_succ]
                          refine wpAnyH_take (i := 10) (oi := { dst := some 92, op := Go.Op.load 22 (Go.Operand.tmp 91), type := 22, pos := "law.go:110", after := #[{ on := 9, ground := Go.Ground.data }, { on := 8, ground := Go.Ground.guard }], guard := some (8, false) }) (v := ?vv11) rfl (by kernel_rfl) (by kernel_rfl) (by kernel_rfl) (fun _ _ _ h => h) (Or.inl ⟨by rfl, ?hy11⟩) (by assumption) ?rr11
                          case hy11 => intro w hSw; (try dsimp only at hSw); go_simp; all_goals with_reducible rfl
                          try simp only [Act.put, List.setIfInBounds_toArray, List.set_cons_zero, List.set_cons_succ]
                          refine wpAnyH_take (i := 11) (oi := { dst := some 93, op := Go.Op.call { callee := Go.Callee.builtin Go.Builtin.len, args := #[Go.Operand.tmp 92], argTypes := #[22] }, type := 3, pos := "law.go:110", after := #[{ on := 10, ground := Go.Ground.data }, { on := 8, ground := Go.Ground.guard }], guard := some (8, false) }) (v := ?vv12) rfl (by kernel_rfl) (by kernel_rfl) (by kernel_rfl) (fun _ _ _ h => h) (Or.inl ⟨by rfl, ?hy12⟩) (by assumption) ?rr12
                          case hy12 => intro w hSw; (try dsimp only at hSw); go_simp; all_goals with_reducible rfl
                          try simp only [Act.put, List.setIfInBounds_toArray, List.set_cons_zero, List.set_cons_succ]
                          refine wpAnyH_take (i := 12) (oi := { dst := some 94, op := Go.Op.move (Go.Operand.tmp 8), type := 3, pos := "law.go:110", after := #[{ on := 8, ground := Go.Ground.guard }], guard := some (8, false) }) (v := ?vv13) rfl (by kernel_rfl) (by kernel_rfl) (by kernel_rfl) (fun _ _ _ h => h) (Or.inl ⟨by rfl, ?hy13⟩) (by assumption) ?rr13
                          case hy13 => intro w hSw; (try dsimp only at hSw); go_simp; all_goals with_reducible rfl
                          try simp only [Act.put, List.setIfInBounds_toArray, List.set_cons_zero, List.set_cons_succ]
                          refine wpAnyH_take (i := 13) (oi := { dst := some 95, op := Go.Op.binOp Go.BinOp.add 3 (Go.Operand.tmp 94) (Go.Operand.const (Go.Value.int Go.IntKind.i64 1)) 3, type := 3, pos := "law.go:110", after := #[{ on := 12, ground := Go.Ground.data }, { on := 8, ground := Go.Ground.guard }], guard := some (8, false) }) (v := ?vv14) rfl (by kernel_rfl) (by kernel_rfl) (by kernel_rfl) (fun _ _ _ h => h) (Or.inl ⟨by rfl, ?hy14⟩) (by assumption) ?rr14
                          case hy14 => intro w hSw; (try dsimp only at hSw); go_simp; all_goals with_reducible rfl
                          try simp only [Act.put, List.setIfInBounds_toArray, List.set_cons_zero, List.set_cons_succ]
                          refine wpAnyH_take (i := 14) (oi := { dst := some 96, op := Go.Op.binOp Go.BinOp.neq 3 (Go.Operand.tmp 93) (Go.Operand.tmp 95) 3, type := 4, pos := "law.go:110", after := #[{ on := 11, ground := Go.Ground.data }, { on := 13, ground := Go.Ground.data }, { on := 8, ground := Go.Ground.guard }], guard := some (8, false) }) (v := ?vv15) rfl (by kernel_rfl) (by kernel_rfl) (by kernel_rfl) (fun _ _ _ h => h) (Or.inl ⟨by rfl, ?hy15⟩) (by assumption) ?rr15
                          case hy15 => intro w hSw; (try dsimp only at hSw); go_simp; all_goals with_reducible rfl
                          try simp only [Act.put, List.setIfInBounds_toArray, List.set_cons_zero, List.set_cons_succ]
                          rw [HN96.out]
                          refine wpAnyH_take (i := 15) (oi := { dst := some 97, op := Go.Op.pick (Go.Operand.tmp 90) (Go.Operand.const (Go.Value.bool true)) (Go.Operand.tmp 96), type := 4, pos := "law.go:110", after := #[{ on := 8, ground := Go.Ground.data }, { on := 14, ground := Go.Ground.data }], guard := none }) (v := ?vv16) rfl (by kernel_rfl) (by kernel_rfl) (by kernel_rfl) (fun _ _ _ h => h) (Or.inl ⟨by rfl, ?hy16⟩) (by assumption) ?rr16
                          case hy16 => intro w hSw; (try dsimp only at hSw); go_simp; all_goals with_reducible rfl
                          try simp only [Act.put, List.setIfInBounds_toArray, List.set_cons_zero, List.set_cons_succ]
                          refine wpAnyH_take (i := 16) (oi := { dst := some 98, op := Go.Op.move (Go.Operand.tmp 97), type := 4, pos := "law.go:110", after := #[{ on := 15, ground := Go.Ground.data }, { on := 8, ground := Go.Ground.chain }], guard := none }) (v := ?vv17) rfl (by kernel_rfl) (by kernel_rfl) (by kernel_rfl) (fun _ _ _ h => h) (Or.inl ⟨by rfl, ?hy17⟩) (by assumption) ?rr17
                          case hy17 => intro w hSw; (try dsimp only at hSw); go_simp; all_goals with_reducible rfl
                          try simp only [Act.put, List.setIfInBounds_toArray, List.set_cons_zero, List.set_cons_succ]
                          refine wpAnyH_take (i := 17) (oi := { dst := some 99, op := Go.Op.load 24 (Go.Operand.tmp 9), type := 24, pos := "law.go:110", after := #[{ on := 16, ground := Go.Ground.guard }], guard := some (16, false) }) (v := ?vv18) rfl (by kernel_rfl) (by kernel_rfl) (by kernel_rfl) (fun _ _ _ h => h) (Or.inl ⟨by rfl, ?hy18⟩) (by assumption) ?rr18
                          case hy18 => intro w hSw; (try dsimp only at hSw); go_simp; all_goals with_reducible rfl
                          try simp only [Act.put, List.setIfInBounds_toArray, List.set_cons_zero, List.set_cons_succ]
                          refine wpAnyH_ready (rs := [18]) (by kernel_rfl) (by simp) ?_
                          refine AllReadyH.cons (i := 18) (o := { dst := some 100, op := Go.Op.call { callee := Go.Callee.value (Go.Operand.func 20), args := #[Go.Operand.tmp 99], argTypes := #[24] }, type := 4, pos := "law.go:110", after := #[{ on := 17, ground := Go.Ground.data }, { on := 16, ground := Go.Ground.chain }, { on := 16, ground := Go.Ground.guard }], guard := some (16, false) }) rfl (fun K hK => ?_) AllReadyH.nil
                          go_simp
                          go_at_call 20
                          refine (rmay_any b (some ⟨bb, ob, none⟩) cb _ (OB.out.below (((Below.refl _ _).drew))) (may_fit HBM.out)).mono ?_
                          rintro e w' ⟨rfl, hb⟩
                          rw [HBM.out]
                          have HBr := hid (below_in (Below.refl _ w6).drew hb)
                          refine hK.out _ _ ?_ (fun hHeld => ?_)
                          · exact ⟨cell_later hb z0, cell_later hb z1, cell_later hb z2, cell_later hb k1, cell_later hb k2, cell_later hb k3, below_in (Below.refl _ _).drew hb⟩
                          clear hK K
                          try simp only [Act.put, List.setIfInBounds_toArray, List.set_cons_zero, List.set_cons_succ]
                          have hH1 := hHeld
                          clear hHeld hb
                          have hHeld := hH1
                          refine wpAnyH_take (i := 19) (oi := { dst := some 101, op := Go.Op.unOp Go.UnOp.not 4 (Go.Operand.tmp 100), type := 4, pos := "law.go:110", after := #[{ on := 18, ground := Go.Ground.data }, { on := 16, ground := Go.Ground.guard }], guard := some (16, false) }) (v := ?vv19) rfl (by kernel_rfl) (by kernel_rfl) (by kernel_rfl) (fun _ _ _ h => h) (Or.inl ⟨by rfl, ?hy19⟩) (by assumption) ?rr19
                          case hy19 => intro w hSw; (try dsimp only at hSw); go_simp; all_goals with_reducible rfl
                          try simp only [Act.put, List.setIfInBounds_toArray, List.set_cons_zero, List.set_cons_succ]
                          refine wpAnyH_take (i := 20) (oi := { dst := some 102, op := Go.Op.pick (Go.Operand.tmp 98) (Go.Operand.const (Go.Value.bool true)) (Go.Operand.tmp 101), type := 4, pos := "law.go:110", after := #[{ on := 16, ground := Go.Ground.data }, { on := 19, ground := Go.Ground.data }], guard := none }) (v := ?vv20) rfl (by kernel_rfl) (by kernel_rfl) (by kernel_rfl) (fun _ _ _ h => h) (Or.inl ⟨by rfl, ?hy20⟩) (by assumption) ?rr20
                          case hy20 => intro w hSw; (try dsimp only at hSw); go_simp; all_goals with_reducible rfl
                          try simp only [Act.put, List.setIfInBounds_toArray, List.set_cons_zero, List.set_cons_succ]
                          refine wpAnyH_take (i := 21) (oi := { dst := some 103, op := Go.Op.move (Go.Operand.tmp 102), type := 4, pos := "law.go:110", after := #[{ on := 20, ground := Go.Ground.data }, { on := 18, ground := Go.Ground.chain }], guard := none }) (v := ?vv21) rfl (by kernel_rfl) (by kernel_rfl) (by kernel_rfl) (fun _ _ _ h => h) (Or.inl ⟨by rfl, ?hy21⟩) (by assumption) ?rr21
                          case hy21 => intro w hSw; (try dsimp only at hSw); go_simp; all_goals with_reducible rfl
                          try simp only [Act.put, List.setIfInBounds_toArray, List.set_cons_zero, List.set_cons_succ]
                          refine wpAnyH_take (i := 22) (oi := { dst := some 104, op := Go.Op.fieldAddr 24 (Go.Operand.tmp 9) 0, type := 0, pos := "law.go:110", after := #[{ on := 21, ground := Go.Ground.guard }], guard := some (21, false) }) (v := ?vv22) rfl (by kernel_rfl) (by kernel_rfl) (by kernel_rfl) (fun _ _ _ h => h) (Or.inl ⟨by rfl, ?hy22⟩) (by assumption) ?rr22
                          case hy22 => intro w hSw; (try dsimp only at hSw); go_simp; all_goals with_reducible rfl
                          try simp only [Act.put, List.setIfInBounds_toArray, List.set_cons_zero, List.set_cons_succ]
                          refine wpAnyH_take (i := 23) (oi := { dst := some 105, op := Go.Op.load 22 (Go.Operand.tmp 104), type := 22, pos := "law.go:110", after := #[{ on := 22, ground := Go.Ground.data }, { on := 21, ground := Go.Ground.guard }], guard := some (21, false) }) (v := ?vv23) rfl (by kernel_rfl) (by kernel_rfl) (by kernel_rfl) (fun _ _ _ h => h) (Or.inl ⟨by rfl, ?hy23⟩) (by assumption) ?rr23
                          case hy23 => intro w hSw; (try dsimp only at hSw); go_simp; all_goals with_reducible rfl
                          try simp only [Act.put, List.setIfInBounds_toArray, List.set_cons_zero, List.set_cons_succ]
                          refine wpAnyH_take (i := 24) (oi := { dst := some 106, op := Go.Op.move (Go.Operand.tmp 8), type := 3, pos := "law.go:110", after := #[{ on := 21, ground := Go.Ground.guard }], guard := some (21, false) }) (v := ?vv24) rfl (by kernel_rfl) (by kernel_rfl) (by kernel_rfl) (fun _ _ _ h => h) (Or.inl ⟨by rfl, ?hy24⟩) (by assumption) ?rr24
                          case hy24 => intro w hSw; (try dsimp only at hSw); go_simp; all_goals with_reducible rfl
                          try simp only [Act.put, List.setIfInBounds_toArray, List.set_cons_zero, List.set_cons_succ]
                          refine wpAnyH_take (i := 25) (oi := { dst := some 107, op := Go.Op.indexAddr 22 (Go.Operand.tmp 105) (Go.Operand.tmp 106), type := 0, pos := "law.go:110", after := #[{ on := 23, ground := Go.Ground.data }, { on := 24, ground := Go.Ground.data }, { on := 21, ground := Go.Ground.guard }], guard := some (21, false) }) (v := ?vv25) rfl (by kernel_rfl) (by kernel_rfl) (by kernel_rfl) (fun _ _ _ h => h) (Or.inl ⟨by rfl, ?hy25⟩) (by assumption) ?rr25
                          case hy25 => intro w hSw; (try dsimp only at hSw); go_simp; all_goals with_reducible rfl
                          try simp only [Act.put, List.setIfInBounds_toArray, List.set_cons_zero, List.set_cons_succ]
                          refine wpAnyH_take (i := 26) (oi := { dst := some 108, op := Go.Op.fieldAddr 46 (Go.Operand.tmp 107) 1, type := 0, pos := "law.go:110", after := #[{ on := 25, ground := Go.Ground.data }, { on := 21, ground := Go.Ground.guard }], guard := some (21, false) }) (v := ?vv26) rfl (by kernel_rfl) (by kernel_rfl) (by kernel_rfl) (fun _ _ _ h => h) (Or.inl ⟨by rfl, ?hy26⟩) (by assumption) ?rr26
                          case hy26 => intro w hSw; (try dsimp only at hSw); go_simp; all_goals with_reducible rfl
                          try simp only [Act.put, List.setIfInBounds_toArray, List.set_cons_zero, List.set_cons_succ]
                          refine wpAnyH_take (i := 27) (oi := { dst := some 109, op := Go.Op.load 3 (Go.Operand.tmp 108), type := 3, pos := "law.go:110", after := #[{ on := 26, ground := Go.Ground.data }, { on := 21, ground := Go.Ground.guard }], guard := some (21, false) }) (v := ?vv27) rfl (by kernel_rfl) (by kernel_rfl) (by kernel_rfl) (fun _ _ _ h => h) (Or.inl ⟨by rfl, ?hy27⟩) (by assumption) ?rr27
                          case hy27 => intro w hSw; (try dsimp only at hSw); go_simp; all_goals with_reducible rfl
                          try simp only [Act.put, List.setIfInBounds_toArray, List.set_cons_zero, List.set_cons_succ]
                          refine wpAnyH_take (i := 28) (oi := { dst := some 110, op := Go.Op.move (Go.Operand.tmp 1), type := 3, pos := "law.go:110", after := #[{ on := 21, ground := Go.Ground.guard }], guard := some (21, false) }) (v := ?vv28) rfl (by kernel_rfl) (by kernel_rfl) (by kernel_rfl) (fun _ _ _ h => h) (Or.inl ⟨by rfl, ?hy28⟩) (by assumption) ?rr28
                          case hy28 => intro w hSw; (try dsimp only at hSw); go_simp; all_goals with_reducible rfl
                          try simp only [Act.put, List.setIfInBounds_toArray, List.set_cons_zero, List.set_cons_succ]
                          refine wpAnyH_take (i := 29) (oi := { dst := some 111, op := Go.Op.binOp Go.BinOp.neq 3 (Go.Operand.tmp 109) (Go.Operand.tmp 110) 3, type := 4, pos := "law.go:110", after := #[{ on := 27, ground := Go.Ground.data }, { on := 28, ground := Go.Ground.data }, { on := 21, ground := Go.Ground.guard }], guard := some (21, false) }) (v := ?vv29) rfl (by kernel_rfl) (by kernel_rfl) (by kernel_rfl) (fun _ _ _ h => h) (Or.inl ⟨by rfl, ?hy29⟩) (by assumption) ?rr29
                          case hy29 => intro w hSw; (try dsimp only at hSw); go_simp; all_goals with_reducible rfl
                          try simp only [Act.put, List.setIfInBounds_toArray, List.set_cons_zero, List.set_cons_succ]
                          refine wpAnyH_take (i := 30) (oi := { dst := some 112, op := Go.Op.pick (Go.Operand.tmp 103) (Go.Operand.const (Go.Value.bool true)) (Go.Operand.tmp 111), type := 4, pos := "law.go:110", after := #[{ on := 21, ground := Go.Ground.data }, { on := 29, ground := Go.Ground.data }], guard := none }) (v := ?vv30) rfl (by kernel_rfl) (by kernel_rfl) (by kernel_rfl) (fun _ _ _ h => h) (Or.inl ⟨by rfl, ?hy30⟩) (by assumption) ?rr30
                          case hy30 => intro w hSw; (try dsimp only at hSw); go_simp; all_goals with_reducible rfl
                          try simp only [Act.put, List.setIfInBounds_toArray, List.set_cons_zero, List.set_cons_succ]
                          refine wpAnyH_take (i := 31) (oi := { dst := some 113, op := Go.Op.move (Go.Operand.tmp 112), type := 4, pos := "law.go:110", after := #[{ on := 30, ground := Go.Ground.data }, { on := 21, ground := Go.Ground.chain }], guard := none }) (v := ?vv31) rfl (by kernel_rfl) (by kernel_rfl) (by kernel_rfl) (fun _ _ _ h => h) (Or.inl ⟨by rfl, ?hy31⟩) (by assumption) ?rr31
                          case hy31 => intro w hSw; (try dsimp only at hSw); go_simp; all_goals with_reducible rfl
                          try simp only [Act.put, List.setIfInBounds_toArray, List.set_cons_zero, List.set_cons_succ]
                          refine wpAnyH_take (i := 32) (oi := { dst := some 114, op := Go.Op.fieldAddr 24 (Go.Operand.tmp 9) 0, type := 0, pos := "law.go:110", after := #[{ on := 31, ground := Go.Ground.guard }], guard := some (31, false) }) (v := ?vv32) rfl (by kernel_rfl) (by kernel_rfl) (by kernel_rfl) (fun _ _ _ h => h) (Or.inl ⟨by rfl, ?hy32⟩) (by assumption) ?rr32
                          case hy32 => intro w hSw; (try dsimp only at hSw); go_simp; all_goals with_reducible rfl
                          try simp only [Act.put, List.setIfInBounds_toArray, List.set_cons_zero, List.set_cons_succ]
                          refine wpAnyH_take (i := 33) (oi := { dst := some 115, op := Go.Op.load 22 (Go.Operand.tmp 114), type := 22, pos := "law.go:110", after := #[{ on := 32, ground := Go.Ground.data }, { on := 31, ground := Go.Ground.guard }], guard := some (31, false) }) (v := ?vv33) rfl (by kernel_rfl) (by kernel_rfl) (by kernel_rfl) (fun _ _ _ h => h) (Or.inl ⟨by rfl, ?hy33⟩) (by assumption) ?rr33
                          case hy33 => intro w hSw; (try dsimp only at hSw); go_simp; all_goals with_reducible rfl
                          try simp only [Act.put, List.setIfInBounds_toArray, List.set_cons_zero, List.set_cons_succ]
                          refine wpAnyH_take (i := 34) (oi := { dst := some 116, op := Go.Op.move (Go.Operand.tmp 8), type := 3, pos := "law.go:110", after := #[{ on := 31, ground := Go.Ground.guard }], guard := some (31, false) }) (v := ?vv34) rfl (by kernel_rfl) (by kernel_rfl) (by kernel_rfl) (fun _ _ _ h => h) (Or.inl ⟨by rfl, ?hy34⟩) (by assumption) ?rr34
                          case hy34 => intro w hSw; (try dsimp only at hSw); go_simp; all_goals with_reducible rfl
                          try simp only [Act.put, List.setIfInBounds_toArray, List.set_cons_zero, List.set_cons_succ]
                          refine wpAnyH_take (i := 35) (oi := { dst := some 117, op := Go.Op.indexAddr 22 (Go.Operand.tmp 115) (Go.Operand.tmp 116), type := 0, pos := "law.go:110", after := #[{ on := 33, ground := Go.Ground.data }, { on := 34, ground := Go.Ground.data }, { on := 31, ground := Go.Ground.guard }], guard := some (31, false) }) (v := ?vv35) rfl (by kernel_rfl) (by kernel_rfl) (by kernel_rfl) (fun _ _ _ h => h) (Or.inl ⟨by rfl, ?hy35⟩) (by assumption) ?rr35
                          case hy35 => intro w hSw; (try dsimp only at hSw); go_simp; all_goals with_reducible rfl
                          try simp only [Act.put, List.setIfInBounds_toArray, List.set_cons_zero, List.set_cons_succ]
                          refine wpAnyH_take (i := 36) (oi := { dst := some 118, op := Go.Op.fieldAddr 46 (Go.Operand.tmp 117) 2, type := 0, pos := "law.go:110", after := #[{ on := 35, ground := Go.Ground.data }, { on := 31, ground := Go.Ground.guard }], guard := some (31, false) }) (v := ?vv36) rfl (by kernel_rfl) (by kernel_rfl) (by kernel_rfl) (fun _ _ _ h => h) (Or.inl ⟨by rfl, ?hy36⟩) (by assumption) ?rr36
                          case hy36 => intro w hSw; (try dsimp only at hSw); go_simp; all_goals with_reducible rfl
                          try simp only [Act.put, List.setIfInBounds_toArray, List.set_cons_zero, List.set_cons_succ]
                          refine wpAnyH_take (i := 37) (oi := { dst := some 119, op := Go.Op.load 44 (Go.Operand.tmp 118), type := 44, pos := "law.go:110", after := #[{ on := 36, ground := Go.Ground.data }, { on := 31, ground := Go.Ground.guard }], guard := some (31, false) }) (v := ?vv37) rfl (by kernel_rfl) (by kernel_rfl) (by kernel_rfl) (fun _ _ _ h => h) (Or.inl ⟨by rfl, ?hy37⟩) (by assumption) ?rr37
                          case hy37 => intro w hSw; (try dsimp only at hSw); go_simp; all_goals with_reducible rfl
                          try simp only [Act.put, List.setIfInBounds_toArray, List.set_cons_zero, List.set_cons_succ]
                          refine wpAnyH_take (i := 38) (oi := { dst := some 120, op := Go.Op.call { callee := Go.Callee.builtin Go.Builtin.len, args := #[Go.Operand.tmp 119], argTypes := #[44] }, type := 3, pos := "law.go:110", after := #[{ on := 37, ground := Go.Ground.data }, { on := 31, ground := Go.Ground.guard }], guard := some (31, false) }) (v := ?vv38) rfl (by kernel_rfl) (by kernel_rfl) (by kernel_rfl) (fun _ _ _ h => h) (Or.inl ⟨by rfl, ?hy38⟩) (by assumption) ?rr38
                          case hy38 => intro w hSw; (try dsimp only at hSw); go_simp; all_goals with_reducible rfl
                          try simp only [Act.put, List.setIfInBounds_toArray, List.set_cons_zero, List.set_cons_succ]
                          refine wpAnyH_take (i := 39) (oi := { dst := some 121, op := Go.Op.fieldAddr 24 (Go.Operand.tmp 9) 0, type := 0, pos := "law.go:110", after := #[{ on := 31, ground := Go.Ground.guard }], guard := some (31, false) }) (v := ?vv39) rfl (by kernel_rfl) (by kernel_rfl) (by kernel_rfl) (fun _ _ _ h => h) (Or.inl ⟨by rfl, ?hy39⟩) (by assumption) ?rr39
                          case hy39 => intro w hSw; (try dsimp only at hSw); go_simp; all_goals with_reducible rfl
                          try simp only [Act.put, List.setIfInBounds_toArray, List.set_cons_zero, List.set_cons_succ]
                          refine wpAnyH_take (i := 40) (oi := { dst := some 122, op := Go.Op.load 22 (Go.Operand.tmp 121), type := 22, pos := "law.go:110", after := #[{ on := 39, ground := Go.Ground.data }, { on := 31, ground := Go.Ground.guard }], guard := some (31, false) }) (v := ?vv40) rfl (by kernel_rfl) (by kernel_rfl) (by kernel_rfl) (fun _ _ _ h => h) (Or.inl ⟨by rfl, ?hy40⟩) (by assumption) ?rr40
                          case hy40 => intro w hSw; (try dsimp only at hSw); go_simp; all_goals with_reducible rfl
                          try simp only [Act.put, List.setIfInBounds_toArray, List.set_cons_zero, List.set_cons_succ]
                          refine wpAnyH_take (i := 41) (oi := { dst := some 123, op := Go.Op.move (Go.Operand.tmp 8), type := 3, pos := "law.go:110", after := #[{ on := 31, ground := Go.Ground.guard }], guard := some (31, false) }) (v := ?vv41) rfl (by kernel_rfl) (by kernel_rfl) (by kernel_rfl) (fun _ _ _ h => h) (Or.inl ⟨by rfl, ?hy41⟩) (by assumption) ?rr41
                          case hy41 => intro w hSw; (try dsimp only at hSw); go_simp; all_goals with_reducible rfl
                          try simp only [Act.put, List.setIfInBounds_toArray, List.set_cons_zero, List.set_cons_succ]
                          refine wpAnyH_take (i := 42) (oi := { dst := some 124, op := Go.Op.indexAddr 22 (Go.Operand.tmp 122) (Go.Operand.tmp 123), type := 0, pos := "law.go:110", after := #[{ on := 40, ground := Go.Ground.data }, { on := 41, ground := Go.Ground.data }, { on := 31, ground := Go.Ground.guard }], guard := some (31, false) }) (v := ?vv42) rfl (by kernel_rfl) (by kernel_rfl) (by kernel_rfl) (fun _ _ _ h => h) (Or.inl ⟨by rfl, ?hy42⟩) (by assumption) ?rr42
                          case hy42 => intro w hSw; (try dsimp only at hSw); go_simp; all_goals with_reducible rfl
                          try simp only [Act.put, List.setIfInBounds_toArray, List.set_cons_zero, List.set_cons_succ]
                          refine wpAnyH_take (i := 43) (oi := { dst := some 125, op := Go.Op.fieldAddr 46 (Go.Operand.tmp 124) 3, type := 0, pos := "law.go:110", after := #[{ on := 42, ground := Go.Ground.data }, { on := 31, ground := Go.Ground.guard }], guard := some (31, false) }) (v := ?vv43) rfl (by kernel_rfl) (by kernel_rfl) (by kernel_rfl) (fun _ _ _ h => h) (Or.inl ⟨by rfl, ?hy43⟩) (by assumption) ?rr43
                          case hy43 => intro w hSw; (try dsimp only at hSw); go_simp; all_goals with_reducible rfl
                          try simp only [Act.put, List.setIfInBounds_toArray, List.set_cons_zero, List.set_cons_succ]
                          refine wpAnyH_take (i := 44) (oi := { dst := some 126, op := Go.Op.load 9 (Go.Operand.tmp 125), type := 9, pos := "law.go:110", after := #[{ on := 43, ground := Go.Ground.data }, { on := 31, ground := Go.Ground.guard }], guard := some (31, false) }) (v := ?vv44) rfl (by kernel_rfl) (by kernel_rfl) (by kernel_rfl) (fun _ _ _ h => h) (Or.inl ⟨by rfl, ?hy44⟩) (by assumption) ?rr44
                          case hy44 => intro w hSw; (try dsimp only at hSw); go_simp; all_goals with_reducible rfl
                          try simp only [Act.put, List.setIfInBounds_toArray, List.set_cons_zero, List.set_cons_succ]
                          refine wpAnyH_take (i := 45) (oi := { dst := some 127, op := Go.Op.call { callee := Go.Callee.builtin Go.Builtin.len, args := #[Go.Operand.tmp 126], argTypes := #[9] }, type := 3, pos := "law.go:110", after := #[{ on := 44, ground := Go.Ground.data }, { on := 31, ground := Go.Ground.guard }], guard := some (31, false) }) (v := ?vv45) rfl (by kernel_rfl) (by kernel_rfl) (by kernel_rfl) (fun _ _ _ h => h) (Or.inl ⟨by rfl, ?hy45⟩) (by assumption) ?rr45
                          case hy45 => intro w hSw; (try dsimp only at hSw); go_simp; all_goals with_reducible rfl
                          try simp only [Act.put, List.setIfInBounds_toArray, List.set_cons_zero, List.set_cons_succ]
                          refine wpAnyH_take (i := 46) (oi := { dst := some 128, op := Go.Op.binOp Go.BinOp.add 3 (Go.Operand.tmp 120) (Go.Operand.tmp 127) 3, type := 3, pos := "law.go:110", after := #[{ on := 38, ground := Go.Ground.data }, { on := 45, ground := Go.Ground.data }, { on := 31, ground := Go.Ground.guard }], guard := some (31, false) }) (v := ?vv46) rfl (by kernel_rfl) (by kernel_rfl) (by kernel_rfl) (fun _ _ _ h => h) (Or.inl ⟨by rfl, ?hy46⟩) (by assumption) ?rr46
                          case hy46 => intro w hSw; (try dsimp only at hSw); go_simp; all_goals with_reducible rfl
                          try simp only [Act.put, List.setIfInBounds_toArray, List.set_cons_zero, List.set_cons_succ]
                          refine wpAnyH_take (i := 47) (oi := { dst := some 129, op := Go.Op.move (Go.Operand.tmp 2), type := 3, pos := "law.go:110", after := #[{ on := 31, ground := Go.Ground.guard }], guard := some (31, false) }) (v := ?vv47) rfl (by kernel_rfl) (by kernel_rfl) (by kernel_rfl) (fun _ _ _ h => h) (Or.inl ⟨by rfl, ?hy47⟩) (by assumption) ?rr47
                          case hy47 => intro w hSw; (try dsimp only at hSw); go_simp; all_goals with_reducible rfl
                          try simp only [Act.put, List.setIfInBounds_toArray, List.set_cons_zero, List.set_cons_succ]
                          refine wpAnyH_take (i := 48) (oi := { dst := some 130, op := Go.Op.binOp Go.BinOp.neq 3 (Go.Operand.tmp 128) (Go.Operand.tmp 129) 3, type := 4, pos := "law.go:110", after := #[{ on := 46, ground := Go.Ground.data }, { on := 47, ground := Go.Ground.data }, { on := 31, ground := Go.Ground.guard }], guard := some (31, false) }) (v := ?vv48) rfl (by kernel_rfl) (by kernel_rfl) (by kernel_rfl) (fun _ _ _ h => h) (Or.inl ⟨by rfl, ?hy48⟩) (by assumption) ?rr48
                          case hy48 => intro w hSw; (try dsimp only at hSw); go_simp; all_goals with_reducible rfl
                          try simp only [Act.put, List.setIfInBounds_toArray, List.set_cons_zero, List.set_cons_succ]
                          rw [HSZ.out]
                          refine wpAnyH_take (i := 49) (oi := { dst := some 131, op := Go.Op.pick (Go.Operand.tmp 113) (Go.Operand.const (Go.Value.bool true)) (Go.Operand.tmp 130), type := 4, pos := "law.go:110", after := #[{ on := 31, ground := Go.Ground.data }, { on := 48, ground := Go.Ground.data }], guard := none }) (v := ?vv49) rfl (by kernel_rfl) (by kernel_rfl) (by kernel_rfl) (fun _ _ _ h => h) (Or.inl ⟨by rfl, ?hy49⟩) (by assumption) ?rr49
                          case hy49 => intro w hSw; (try dsimp only at hSw); go_simp; all_goals with_reducible rfl
                          try simp only [Act.put, List.setIfInBounds_toArray, List.set_cons_zero, List.set_cons_succ]
                          refine wpAnyH_done (by kernel_rfl) ?_ _
                          have hHeldB := hHeld.2.2.2.2.2.2
                          have TAw := hid (TA.out.later hHeldB)
                          have TXw := hid (TX.out.later hHeldB)
                          have TBw := hid (TB.out.later hHeldB)
                          have OWw := hid (OW.out.later hHeldB)
                          have OAw := hid (OA.out.below hHeldB)
                          have HWw := hid (below_in HW5.out hHeldB)
                          clear hHeld hHeldB hH1
                          rename World => w7
                          have HCBw := hid (OB.out.below HBr.out)
                          clear k1 k2 k3 z0 z1 z2 HCB HBr
                          go_wp2_with fail
                          go_loopw [12] (fun i wr => ∃ k : Nat, k ≤ n ∧ i = .int .i64 k ∧ Below w7.heap.size w7 wr) (fun i _ => n - (intOf i).toNat)
                          case atStart => exact ⟨0, Nat.zero_le _, rfl, Below.refl _ _⟩
                          case round =>
                            obtain ⟨k, hk, rfl, hbw⟩ := hrel
                            rename World => wi
                            have HV := hid hbw
                            have z0 := (TBw.out.later hbw).cell 0
                            have z1 := (TBw.out.later hbw).cell 1
                            have z2 := (TBw.out.later hbw).cell 2
                            have t0 := (TAw.out.later hbw).cell 0
                            have t1 := (TAw.out.later hbw).cell 1
                            have t2 := (TAw.out.later hbw).cell 2
                            simp only [List.getElem?_toArray, List.getElem?_cons_zero, List.getElem?_cons_succ] at z0 z1 z2 t0 t1 t2
                            by_cases hkn : k < n
                            · obtain ⟨ba, oa, rfl, hba, hca⟩ := (OAw.out.below hbw) (by have := HLN.out; omega)
                              have hka : k < a.objs.length := by have := HLN.out; omega
                              have hoa := List.getElem?_eq_getElem hka
                              obtain ⟨Sa, da, ⟨m0, m1, m2, m3, m4, m5⟩, hia, -, -⟩ := hca k _ hoa
                              obtain ⟨bb', ob', hbe, hbb', hcb'⟩ := (HCBw.out.below hbw) (by omega)
                              simp only [Option.some.injEq, Addr.mk.injEq, and_true] at hbe
                              obtain ⟨rfl, rfl⟩ := hbe
                              obtain ⟨Sb, db, ⟨n0, n1, n2, n3, n4, n5⟩, hib, -, -⟩ := hcb' k _ (HBI.out k _ hoa)
                              have hol := (may_fit HAM.out).slots (List.getElem_mem hka)
                              obtain ⟨p, hp⟩ : ∃ p, p = a.objs[k] := ⟨_, rfl⟩
                              rw [← hp] at m0 m1 m2 m3 m4 m5 n0 n1 n2 n3 n4 n5 hia hib hol
                              have HIA := hid hia
                              have HIB := hid hib
                              have hkb : k < b.objs.length := by omega
                              clear hca hcb' hoa hp hia hib hbw
                              go_wp2_with fail
                              refine wp_region_held_drew (S := (fun w' => w'.cell? ⟨w3.heap.size, 0, none⟩ = some (.slice (some ⟨ba, oa, none⟩) a.objs.length ca) ∧ w'.cell? ⟨w3.heap.size, 1, none⟩ = some (.int .i64 a.cap) ∧ w'.cell? ⟨w3.heap.size, 2, none⟩ = some (.int .i64 a.last) ∧ w'.cell? ⟨w5.heap.size, 0, none⟩ = some (.slice (some ⟨bb, ob, none⟩) b.objs.length cb) ∧ w'.cell? ⟨w5.heap.size, 1, none⟩ = some (.int .i64 b.cap) ∧ w'.cell? ⟨w5.heap.size, 2, none⟩ = some (.int .i64 b.last) ∧ w'.cell? ⟨ba, oa + k * 6, none⟩ = some (.int .i64 p.cls) ∧ w'.cell? ⟨ba, oa + k * 6 + 1, none⟩ = some (.int .i64 p.2) ∧ w'.cell? ⟨ba, oa + k * 6 + 2, none⟩ = some (.slice Sa p.slots.length da) ∧ w'.cell? ⟨ba, oa + k * 6 + 3, none⟩ = some (.string p.text) ∧ w'.cell? ⟨ba, oa + k * 6 + 4, none⟩ = some (.int .i64 p.bits) ∧ w'.cell? ⟨ba, oa + k * 6 + 5, none⟩ = some (.int .i64 p.hash) ∧ w'.cell? ⟨bb, ob + k * 6, none⟩ = some (.int .i64 p.cls) ∧ w'.cell? ⟨bb, ob + k * 6 + 1, none⟩ = some (.int .i64 p.2) ∧ w'.cell? ⟨bb, ob + k * 6 + 2, none⟩ = some (.slice Sb p.slots.length db) ∧ w'.cell? ⟨bb, ob + k * 6 + 3, none⟩ = some (.string p.text) ∧ w'.cell? ⟨bb, ob + k * 6 + 4, none⟩ = some (.int .i64 p.bits) ∧ w'.cell? ⟨bb, ob + k * 6 + 5, none⟩ = some (.int .i64 p.hash) ∧ Below wi.heap.size wi w')) (by kernel_rfl) ?_ (fun hHeld => ?_)
                              · exact ⟨t0, t1, t2, z0, z1, z2, m0, m1, m2, m3, m4, m5, n0, n1, n2, n3, n4, n5, (Below.refl _ _).drew⟩
                              refine wpAnyH_take (i := 0) (oi := { dst := some 137, op := Go.Op.fieldAddr 24 (Go.Operand.tmp 7) 0, type := 0, pos := "law.go:114", after := #[], guard := none }) (v := ?vv50) rfl (by kernel_rfl) (by kernel_rfl) (by kernel_rfl) (fun _ _ _ h => h) (Or.inl ⟨by rfl, ?hy50⟩) (by assumption) ?rr50
                              case hy50 => intro w hSw; (try dsimp only at hSw); go_simp; all_goals with_reducible rfl
                              try simp only [Act.put, List.setIfInBounds_toArray, List.set_cons_zero, List.set_cons_succ]
                              refine wpAnyH_take (i := 1) (oi := { dst := some 138, op := Go.Op.load 22 (Go.Operand.tmp 137), type := 22, pos := "law.go:114", after := #[{ on := 0, ground := Go.Ground.data }], guard := none }) (v := ?vv51) rfl (by kernel_rfl) (by kernel_rfl) (by kernel_rfl) (fun _ _ _ h => h) (Or.inl ⟨by rfl, ?hy51⟩) (by assumption) ?rr51
                              case hy51 => intro w hSw; (try dsimp only at hSw); go_simp; all_goals with_reducible rfl
                              try simp only [Act.put, List.setIfInBounds_toArray, List.set_cons_zero, List.set_cons_succ]
                              refine wpAnyH_take (i := 2) (oi := { dst := some 139, op := Go.Op.move (Go.Operand.tmp 12), type := 3, pos := "law.go:114", after := #[], guard := none }) (v := ?vv52) rfl (by kernel_rfl) (by kernel_rfl) (by kernel_rfl) (fun _ _ _ h => h) (Or.inl ⟨by rfl, ?hy52⟩) (by assumption) ?rr52
                              case hy52 => intro w hSw; (try dsimp only at hSw); go_simp; all_goals with_reducible rfl
                              try simp only [Act.put, List.setIfInBounds_toArray, List.set_cons_zero, List.set_cons_succ]
                              refine wpAnyH_take (i := 3) (oi := { dst := some 140, op := Go.Op.indexAddr 22 (Go.Operand.tmp 138) (Go.Operand.tmp 139), type := 0, pos := "law.go:114", after := #[{ on := 1, ground := Go.Ground.data }, { on := 2, ground := Go.Ground.data }], guard := none }) (v := ?vv53) rfl (by kernel_rfl) (by kernel_rfl) (by kernel_rfl) (fun _ _ _ h => h) (Or.inl ⟨by rfl, ?hy53⟩) (by assumption) ?rr53
                              case hy53 => intro w hSw; (try dsimp only at hSw); go_simp; all_goals with_reducible rfl
                              try simp only [Act.put, List.setIfInBounds_toArray, List.set_cons_zero, List.set_cons_succ]
                              refine wpAnyH_take (i := 4) (oi := { dst := some 141, op := Go.Op.load 46 (Go.Operand.tmp 140), type := 46, pos := "law.go:114", after := #[{ on := 3, ground := Go.Ground.data }], guard := none }) (v := ?vv54) rfl (by kernel_rfl) (by kernel_rfl) (by kernel_rfl) (fun _ _ _ h => h) (Or.inl ⟨by rfl, ?hy54⟩) (by assumption) ?rr54
                              case hy54 => intro w hSw; (try dsimp only at hSw); go_simp; all_goals with_reducible rfl
                              try simp only [Act.put, List.setIfInBounds_toArray, List.set_cons_zero, List.set_cons_succ]
                              refine wpAnyH_take (i := 5) (oi := { dst := some 142, op := Go.Op.fieldAddr 24 (Go.Operand.tmp 9) 0, type := 0, pos := "law.go:114", after := #[], guard := none }) (v := ?vv55) rfl (by kernel_rfl) (by kernel_rfl) (by kernel_rfl) (fun _ _ _ h => h) (Or.inl ⟨by rfl, ?hy55⟩) (by assumption) ?rr55
                              case hy55 => intro w hSw; (try dsimp only at hSw); go_simp; all_goals with_reducible rfl
                              try simp only [Act.put, List.setIfInBounds_toArray, List.set_cons_zero, List.set_cons_succ]
                              refine wpAnyH_take (i := 6) (oi := { dst := some 143, op := Go.Op.load 22 (Go.Operand.tmp 142), type := 22, pos := "law.go:114", after := #[{ on := 5, ground := Go.Ground.data }], guard := none }) (v := ?vv56) rfl (by kernel_rfl) (by kernel_rfl) (by kernel_rfl) (fun _ _ _ h => h) (Or.inl ⟨by rfl, ?hy56⟩) (by assumption) ?rr56
                              case hy56 => intro w hSw; (try dsimp only at hSw); go_simp; all_goals with_reducible rfl
                              try simp only [Act.put, List.setIfInBounds_toArray, List.set_cons_zero, List.set_cons_succ]
                              refine wpAnyH_take (i := 7) (oi := { dst := some 144, op := Go.Op.move (Go.Operand.tmp 12), type := 3, pos := "law.go:114", after := #[], guard := none }) (v := ?vv57) rfl (by kernel_rfl) (by kernel_rfl) (by kernel_rfl) (fun _ _ _ h => h) (Or.inl ⟨by rfl, ?hy57⟩) (by assumption) ?rr57
                              case hy57 => intro w hSw; (try dsimp only at hSw); go_simp; all_goals with_reducible rfl
                              try simp only [Act.put, List.setIfInBounds_toArray, List.set_cons_zero, List.set_cons_succ]
                              refine wpAnyH_take (i := 8) (oi := { dst := some 145, op := Go.Op.indexAddr 22 (Go.Operand.tmp 143) (Go.Operand.tmp 144), type := 0, pos := "law.go:114", after := #[{ on := 6, ground := Go.Ground.data }, { on := 7, ground := Go.Ground.data }], guard := none }) (v := ?vv58) rfl (by kernel_rfl) (by kernel_rfl) (by kernel_rfl) (fun _ _ _ h => h) (Or.inl ⟨by rfl, ?hy58⟩) (by assumption) ?rr58
                              case hy58 => intro w hSw; (try dsimp only at hSw); go_simp; all_goals with_reducible rfl
                              try simp only [Act.put, List.setIfInBounds_toArray, List.set_cons_zero, List.set_cons_succ]
                              refine wpAnyH_take (i := 9) (oi := { dst := some 146, op := Go.Op.load 46 (Go.Operand.tmp 145), type := 46, pos := "law.go:114", after := #[{ on := 8, ground := Go.Ground.data }], guard := none }) (v := ?vv59) rfl (by kernel_rfl) (by kernel_rfl) (by kernel_rfl) (fun _ _ _ h => h) (Or.inl ⟨by rfl, ?hy59⟩) (by assumption) ?rr59
                              case hy59 => intro w hSw; (try dsimp only at hSw); go_simp; all_goals with_reducible rfl
                              try simp only [Act.put, List.setIfInBounds_toArray, List.set_cons_zero, List.set_cons_succ]
                              refine wpAnyH_ready (rs := [10]) (by kernel_rfl) (by simp) ?_
                              refine AllReadyH.cons (i := 10) (o := { dst := some 147, op := Go.Op.call { callee := Go.Callee.value (Go.Operand.func 34), args := #[Go.Operand.tmp 141, Go.Operand.tmp 146], argTypes := #[46, 46] }, type := 4, pos := "law.go:114", after := #[{ on := 4, ground := Go.Ground.data }, { on := 9, ground := Go.Ground.data }], guard := none }) rfl (fun K hK => ?_) AllReadyH.nil
                              go_simp
                              go_at_call 34
                              refine (one_same p Sa Sb da db _ (HIA.out.below (((Below.refl _ _).drew))) (HIB.out.below (((Below.refl _ _).drew))) hol).mono ?_
                              rintro e w' ⟨rfl, hb⟩
                              refine hK.out _ _ ?_ (fun hHeld => ?_)
                              · exact ⟨cell_later hb t0, cell_later hb t1, cell_later hb t2, cell_later hb z0, cell_later hb z1, cell_later hb z2, cell_later hb m0, cell_later hb m1, cell_later hb m2, cell_later hb m3, cell_later hb m4, cell_later hb m5, cell_later hb n0, cell_later hb n1, cell_later hb n2, cell_later hb n3, cell_later hb n4, cell_later hb n5, below_in (Below.refl _ _).drew hb⟩
                              clear hK K
                              try simp only [Act.put, List.setIfInBounds_toArray, List.set_cons_zero, List.set_cons_succ]
                              have hH1 := hHeld
                              clear hHeld hb
                              have hHeld := hH1
                              refine wpAnyH_take (i := 11) (oi := { dst := some 148, op := Go.Op.unOp Go.UnOp.not 4 (Go.Operand.tmp 147), type := 4, pos := "law.go:114", after := #[{ on := 10, ground := Go.Ground.data }], guard := none }) (v := ?vv60) rfl (by kernel_rfl) (by kernel_rfl) (by kernel_rfl) (fun _ _ _ h => h) (Or.inl ⟨by rfl, ?hy60⟩) (by assumption) ?rr60
                              case hy60 => intro w hSw; (try dsimp only at hSw); go_simp; all_goals with_reducible rfl
                              try simp only [Act.put, List.setIfInBounds_toArray, List.set_cons_zero, List.set_cons_succ]
                              refine wpAnyH_done (by kernel_rfl) ?_ _
                              have hHeldB := hHeld.2.2.2.2.2.2.2.2.2.2.2.2.2.2.2.2.2.2
                              go_wp2_with fail
                              go_roundw
                              case rel => exact ⟨k + 1, by omega, by go_num, below_in HV.out hHeldB⟩
                              case measure => simp [intOf]; omega
                            · have f0 := (TAw.out.later hbw).frozen 0
                              have f1 := (TAw.out.later hbw).frozen 1
                              have f2 := (TAw.out.later hbw).frozen 2
                              have TAv := hid (TAw.out.later hbw)
                              have OWv := hid (OWw.out.later hbw)
                              have TXv := hid (TXw.out.later hbw)
                              have HWv := hid (below_in HWw.out hbw)
                              clear hbw
                              go_wp2_with fail
                              go_roundw
                              case rel =>
                                refine ⟨n + 1, b, _, cb, by omega, by omega, by go_num, HBL.out, HBC.out, HBM.out, own_obs (own_off3 OWv.out TAv.out _ _ _) HLB.out, ?_, ?_, ?_⟩
                                · simpa using ((TAv.out.set_ 0 (.slice (some ⟨bb, ob, none⟩) b.objs.length cb)).set_ 1 (.int .i64 b.cap)).set_ 2 (.int .i64 b.last)
                                · exact ((TXv.out.far (p := ⟨w3.heap.size, 0, none⟩) (by show _ ≠ w3.heap.size; omega) _).far (p := ⟨w3.heap.size, 1, none⟩) (by show _ ≠ w3.heap.size; omega) _).far (p := ⟨w3.heap.size, 2, none⟩) (by show _ ≠ w3.heap.size; omega) _
                                · exact ((HWv.out.setCell (p := ⟨w3.heap.size, 0, none⟩) (by simp; omega) _).setCell (p := ⟨w3.heap.size, 1, none⟩) (by simp; omega) _).setCell (p := ⟨w3.heap.size, 2, none⟩) (by simp; omega) _
                              case measure => simp [intOf]; omega
                        · have hcap : a.cap ≤ (a.objs.length : Int) := by rw [hal, hac]; omega
                          have ha0 : 0 < a.objs.length := by have := H0.out; omega
                          obtain ⟨f1, f2, f3⟩ := fills_full HAM.out SZ.out ha0 hcap
                          have HA := alloc_any a 0 2 size Aa ca wo HAO.out (may_fit HAM.out)
                          rw [f1, f2, f3] at HA
                          have HAA := hid HA
                          clear HA f1 f2 f3 hal hac hcap
                          go_wp2_with fail
                          refine HAA.out.mono ?_
                          rintro e w5 ⟨Ab, cb, lb, rfl, hlb, hob, hb5⟩
                          have HAL := hid (below_alloc w5 (.cells #[Value.slice Ab a.objs.length cb, Value.int .i64 a.cap, Value.int .i64 a.last] 24))
                          have OB := hid ((own_obs hob hlb).below HAL.out)
                          have OA := hid ((HAO.out.below hb5).below HAL.out)
                          have TA := hid ((HTA.out.later hb5).later HAL.out)
                          have TB := hid (Lies.new w5 24 #[Value.slice Ab a.objs.length cb, Value.int .i64 a.cap, Value.int .i64 a.last])
                          have HW5 := hid (below_in (below_in HW.out hb5) HAL.out)
                          clear hob hlb hb5 t0 t1 t2 x1
                          have t0 := TA.out.cell 0
                          have t1 := TA.out.cell 1
                          have t2 := TA.out.cell 2
                          simp only [List.getElem?_toArray, List.getElem?_cons_zero, List.getElem?_cons_succ] at t0 t1 t2
                          go_wp2_with fail
                          refine (same_any a Aa Ab ca cb _ OA.out OB.out (may_fit HAM.out)).mono ?_
                          rintro e w7 ⟨rfl, hb7⟩
                          have HW7 := hid (below_in HW5.out hb7)
                          clear hb7
                          go_wp2_with fail
                          go_ret
                          exact ⟨rfl, HW7.out⟩
                  · have SZ : Hid (Sized kind size) := ⟨by omega, by omega, by omega, by omega, fun e => by omega⟩
                    have hcp := may_cap HM.out
                    have hz37 : ((h.objs.length : Int) == 0) = false := by simpa using c2
                    have HAL := hid (below_alloc w3 (.cells #[Value.slice A h.objs.length c, Value.int .i64 h.cap, Value.int .i64 h.last] 24))
                    have HB4 := hid (HB3.out.trans (HAL.out.mono HB3.out.size))
                    have X4 := hid (X3.out.later HAL.out)
                    have T4 := hid (Lies.new w3 24 #[Value.slice A h.objs.length c, Value.int .i64 h.cap, Value.int .i64 h.last])
                    have O4 := hid (O3.out.below HAL.out)
                    have hw03 : w.heap.size < w3.heap.size := X3.out.lt
                    have h0 : 0 < h.objs.length := by omega
                    clear HB0 HB1 HB2 X0 X1 X2 O0 O1 O2 O3 X3
                    go_wp2_with fail
                    have H0 := hid h0
                    clear h0 c2
                    go_loopw [8] (fun i wr => ∃ (n : Nat) (a : Hp) (Aa : Option Addr) (ca : Nat), h.objs.length ≤ n ∧ (n : Int) ≤ h.cap ∧ i = .int .i64 n ∧ a.objs.length = n ∧ a.cap = h.cap ∧ mayB a = true ∧ ObsR wr Aa a.objs ∧ Lies wr w3.heap.size 24 #[Value.slice Aa a.objs.length ca, Value.int .i64 a.cap, Value.int .i64 a.last] ∧ Lies wr w.heap.size 24 #[Value.slice A h.objs.length c, Value.int .i64 h.cap, Value.int .i64 h.last] ∧ Below w.heap.size w wr) (fun i _ => (h.cap - intOf i).toNat)
                    case atStart => exact ⟨h.objs.length, h, A, c, Nat.le_refl _, hcp, rfl, rfl, rfl, HM.out, O4.out, T4.out, X4.out, HB4.out⟩
                    case round =>
                      clear x0 x1 x2 HAL HB4 X4 T4 O4
                      obtain ⟨n, a, Aa, ca, hn0, hnc, rfl, hal, hac, ham, hao, hta, htx, hbw⟩ := hrel
                      rename World => wo
                      have HAM := hid ham
                      have HAO := hid hao
                      have HTA := hid hta
                      have HTX := hid htx
                      have HW := hid hbw
                      have x1 := htx.cell 1
                      have t0 := hta.cell 0
                      have t1 := hta.cell 1
                      have t2 := hta.cell 2
                      simp only [List.getElem?_toArray, List.getElem?_cons_zero, List.getElem?_cons_succ] at x1 t0 t1 t2
                      have hn40 : n ≤ 40 := by omega
                      clear ham hao hta htx hbw
                      by_cases hlt : (n : Int) < h.cap
                      · have hcap : (a.objs.length : Int) < a.cap := by rw [hal, hac]; exact hlt
                        have ha0 : 0 < a.objs.length := by have := H0.out; omega
                        obtain ⟨f1, f2, f3⟩ := fills_step HAM.out SZ.out ha0 hcap
                        have hbm := alH_may HAM.out SZ.out ha0 hcap
                        obtain ⟨-, g2, g3⟩ := newO_ok SZ.out ha0
                        have hbl : (alH a 0 kind size).objs.length = n + 1 := by simp [alH, hal]
                        have hbc : (alH a 0 kind size).cap = h.cap := hac
                        have hbn : (alH a 0 kind size).objs[n]? = some (newO a 0 kind size) := by rw [← hal]; simp [alH]
                        have hbi : ∀ i o, a.objs[i]? = some o → (alH a 0 kind size).objs[i]? = some o := fun i o ho => by
                          have hi := (List.getElem?_eq_some_iff.1 ho).1
                          simp only [alH]
                          rw [List.getElem?_append_left hi]; exact ho
                        obtain ⟨b, hbe⟩ : ∃ b, b = alH a 0 kind size := ⟨_, rfl⟩
                        obtain ⟨o, hoe⟩ : ∃ o, o = newO a 0 kind size := ⟨_, rfl⟩
                        rw [← hbe] at f3 hbm hbl hbc hbn hbi
                        rw [← hoe] at hbn g2 g3
                        have HA := alloc_any a 0 kind size Aa ca wo HAO.out (may_fit HAM.out)
                        have f2' : 2 * (a.objs.length : Int) = 2 * (n : Int) := by rw [hal]
                        rw [f1, f2, f3, f2'] at HA
                        have HAA := hid HA
                        have HBM := hid hbm
                        have HBN := hid hbn
                        have HBI := hid hbi
                        have HBL := hid hbl
                        have HBC := hid hbc
                        have G2 := hid g2
                        have hn96 : ((b.objs.length : Int) != (n : Int) + 1) = false := by rw [hbl]; simp
                        have hsz : ((o.slots.length : Int) + (o.text.size : Int) != size) = false := by simpa using g3
                        have HN96 := hid hn96
                        have HSZ := hid hsz
                        have hnb : n < b.objs.length := by omega
                        have hw2 : IntKind.i64.wrap (2 * (n : Int)) = 2 * (n : Int) := IntWalk.i64_in _ (by omega)
                        have hw1 : IntKind.i64.wrap ((n : Int) + 1) = (n : Int) + 1 := IntWalk.i64_in _ (by omega)
                        have hw3 : IntKind.i64.wrap ((o.slots.length : Int) + (o.text.size : Int)) = (o.slots.length : Int) + (o.text.size : Int) := IntWalk.i64_in _ (by have := SZ.out.s4; omega)
                        have HLN := hid hal
                        clear HA hbe hoe f1 f2 f2' f3 hbm hbn hbi g2 g3 hbc hn96 hsz hbl hal hac hcap
                        go_wp2_with fail
                        refine HAA.out.mono ?_
                        rintro e w5 ⟨Ab, cb, lb, rfl, hlb, hob, hb5⟩
                        have HAL := hid (below_alloc w5 (.cells #[Value.slice Ab b.objs.length cb, Value.int .i64 b.cap, Value.int .i64 b.last] 24))
                        have OW := hid (hob.later HAL.out)
                        have OB := hid ((own_obs hob hlb).below HAL.out)
                        have OA := hid ((HAO.out.below hb5).below HAL.out)
                        have TA := hid ((HTA.out.later hb5).later HAL.out)
                        have TX := hid ((HTX.out.later hb5).later HAL.out)
                        have TB := hid (Lies.new w5 24 #[Value.slice Ab b.objs.length cb, Value.int .i64 b.cap, Value.int .i64 b.last])
                        have HW5 := hid (below_in (below_in HW.out hb5) HAL.out)
                        have HLB := hid hlb
                        have h35 : w3.heap.size < w5.heap.size := Nat.lt_of_lt_of_le HTA.out.lt hb5.size
                        obtain ⟨w6, hw6⟩ : ∃ w6, w6 = w5.alloc (.cells #[Value.slice Ab b.objs.length cb, Value.int .i64 b.cap, Value.int .i64 b.last] 24) := ⟨_, rfl⟩
                        rw [← hw6] at OW OB OA TA TX TB HW5
                        clear hob hlb hb5 HAL t0 t1 t2 x1
                        obtain ⟨bb, ob, rfl, hbb, hcb⟩ := OB.out (by omega)
                        obtain ⟨S, ds, hobj, hin, -, -⟩ := hcb n o HBN.out
                        obtain ⟨k0, k1, k2, k3, k4, k5⟩ := hobj
                        rw [G2.out] at k1
                        have z0 := TB.out.cell 0
                        have z1 := TB.out.cell 1
                        have z2 := TB.out.cell 2
                        simp only [List.getElem?_toArray, List.getElem?_cons_zero, List.getElem?_cons_succ] at z0 z1 z2
                        have HCB := hid hcb
                        clear hcb hin k0 k4 k5
                        go_wp2_with fail
                        rw [← hw6]
                        clear hw6
                        refine wp_region_held_drew (S := (fun w' => w'.cell? ⟨w5.heap.size, 0, none⟩ = some (.slice (some ⟨bb, ob, none⟩) b.objs.length cb) ∧ w'.cell? ⟨w5.heap.size, 1, none⟩ = some (.int .i64 b.cap) ∧ w'.cell? ⟨w5.heap.size, 2, none⟩ = some (.int .i64 b.last) ∧ w'.cell? ⟨bb, ob + n * 6 + 1, none⟩ = some (.int .i64 kind) ∧ w'.cell? ⟨bb, ob + n * 6 + 2, none⟩ = some (.slice S o.slots.length ds) ∧ w'.cell? ⟨bb, ob + n * 6 + 3, none⟩ = some (.string o.text) ∧ Below w6.heap.size w6 w')) (by kernel_rfl) ?_ (fun hHeld => ?_)
                        · exact ⟨z0, z1, z2, k1, k2, k3, (Below.refl _ _).drew⟩
                        refine wpAnyH_take (i := 0) (oi := { dst := some 82, op := Go.Op.move (Go.Operand.tmp 11), type := 29, pos := "law.go:110", after := #[], guard := none }) (v := ?vv61) rfl (by kernel_rfl) (by kernel_rfl) (by kernel_rfl) (fun _ _ _ h => h) (Or.inl ⟨by rfl, ?hy61⟩) (by assumption) ?rr61
                        case hy61 => intro w hSw; (try dsimp only at hSw); go_simp; all_goals with_reducible rfl
                        try simp only [Act.put, List.setIfInBounds_toArray, List.set_cons_zero, List.set_cons_succ]
                        refine wpAnyH_take (i := 1) (oi := { dst := some 83, op := Go.Op.binOp Go.BinOp.neq 29 (Go.Operand.tmp 82) (Go.Operand.const (Go.Value.int Go.IntKind.i64 0)) 29, type := 4, pos := "law.go:110", after := #[{ on := 0, ground := Go.Ground.data }], guard := none }) (v := ?vv62) rfl (by kernel_rfl) (by kernel_rfl) (by kernel_rfl) (fun _ _ _ h => h) (Or.inl ⟨by rfl, ?hy62⟩) (by assumption) ?rr62
                        case hy62 => intro w hSw; (try dsimp only at hSw); go_simp; all_goals with_reducible rfl
                        try simp only [Act.put, List.setIfInBounds_toArray, List.set_cons_zero, List.set_cons_succ]
                        refine wpAnyH_take (i := 2) (oi := { dst := some 84, op := Go.Op.move (Go.Operand.tmp 83), type := 4, pos := "law.go:110", after := #[{ on := 1, ground := Go.Ground.data }], guard := none }) (v := ?vv63) rfl (by kernel_rfl) (by kernel_rfl) (by kernel_rfl) (fun _ _ _ h => h) (Or.inl ⟨by rfl, ?hy63⟩) (by assumption) ?rr63
                        case hy63 => intro w hSw; (try dsimp only at hSw); go_simp; all_goals with_reducible rfl
                        try simp only [Act.put, List.setIfInBounds_toArray, List.set_cons_zero, List.set_cons_succ]
                        refine wpAnyH_take (i := 3) (oi := { dst := some 85, op := Go.Op.move (Go.Operand.tmp 10), type := 3, pos := "law.go:110", after := #[{ on := 2, ground := Go.Ground.guard }], guard := some (2, false) }) (v := ?vv64) rfl (by kernel_rfl) (by kernel_rfl) (by kernel_rfl) (fun _ _ _ h => h) (Or.inl ⟨by rfl, ?hy64⟩) (by assumption) ?rr64
                        case hy64 => intro w hSw; (try dsimp only at hSw); go_simp; all_goals with_reducible rfl
                        try simp only [Act.put, List.setIfInBounds_toArray, List.set_cons_zero, List.set_cons_succ]
                        refine wpAnyH_take (i := 4) (oi := { dst := some 86, op := Go.Op.move (Go.Operand.tmp 8), type := 3, pos := "law.go:110", after := #[{ on := 2, ground := Go.Ground.guard }], guard := some (2, false) }) (v := ?vv65) rfl (by kernel_rfl) (by kernel_rfl) (by kernel_rfl) (fun _ _ _ h => h) (Or.inl ⟨by rfl, ?hy65⟩) (by assumption) ?rr65
                        case hy65 => intro w hSw; (try dsimp only at hSw); go_simp; all_goals with_reducible rfl
                        try simp only [Act.put, List.setIfInBounds_toArray, List.set_cons_zero, List.set_cons_succ]
                        refine wpAnyH_take (i := 5) (oi := { dst := some 87, op := Go.Op.binOp Go.BinOp.mul 3 (Go.Operand.const (Go.Value.int Go.IntKind.i64 2)) (Go.Operand.tmp 86) 3, type := 3, pos := "law.go:110", after := #[{ on := 4, ground := Go.Ground.data }, { on := 2, ground := Go.Ground.guard }], guard := some (2, false) }) (v := ?vv66) rfl (by kernel_rfl) (by kernel_rfl) (by kernel_rfl) (fun _ _ _ h => h) (Or.inl ⟨by rfl, ?hy66⟩) (by assumption) ?rr66
                        case hy66 => intro w hSw; (try dsimp only at hSw); go_simp; all_goals with_reducible rfl
                        try simp only [Act.put, List.setIfInBounds_toArray, List.set_cons_zero, List.set_cons_succ]
                        refine wpAnyH_take (i := 6) (oi := { dst := some 88, op := Go.Op.binOp Go.BinOp.neq 3 (Go.Operand.tmp 85) (Go.Operand.tmp 87) 3, type := 4, pos := "law.go:110", after := #[{ on := 3, ground := Go.Ground.data }, { on := 5, ground := Go.Ground.data }, { on := 2, ground := Go.Ground.guard }], guard := some (2, false) }) (v := ?vv67) rfl (by kernel_rfl) (by kernel_rfl) (by kernel_rfl) (fun _ _ _ h => h) (Or.inl ⟨by rfl, ?hy67⟩) (by assumption) ?rr67
                        case hy67 => intro w hSw; (try dsimp only at hSw); go_simp; all_goals with_reducible rfl
                        try simp only [Act.put, List.setIfInBounds_toArray, List.set_cons_zero, List.set_cons_succ]
                        refine wpAnyH_take (i := 7) (oi := { dst := some 89, op := Go.Op.pick (Go.Operand.tmp 84) (Go.Operand.const (Go.Value.bool true)) (Go.Operand.tmp 88), type := 4, pos := "law.go:110", after := #[{ on := 2, ground := Go.Ground.data }, { on := 6, ground := Go.Ground.data }], guard := none }) (v := ?vv68) rfl (by kernel_rfl) (by kernel_rfl) (by kernel_rfl) (fun _ _ _ h => h) (Or.inl ⟨by rfl, ?hy68⟩) (by assumption) ?rr68
                        case hy68 => intro w hSw; (try dsimp only at hSw); go_simp; all_goals with_reducible rfl
                        try simp only [Act.put, List.setIfInBounds_toArray, List.set_cons_zero, List.set_cons_succ]
                        refine wpAnyH_take (i := 8) (oi := { dst := some 90, op := Go.Op.move (Go.Operand.tmp 89), type := 4, pos := "law.go:110", after := #[{ on := 7, ground := Go.Ground.data }, { on := 2, ground := Go.Ground.chain }], guard := none }) (v := ?vv69) rfl (by kernel_rfl) (by kernel_rfl) (by kernel_rfl) (fun _ _ _ h => h) (Or.inl ⟨by rfl, ?hy69⟩) (by assumption) ?rr69
                        case hy69 => intro w hSw; (try dsimp only at hSw); go_simp; all_goals with_reducible rfl
                        try simp only [Act.put, List.setIfInBounds_toArray, List.set_cons_zero, List.set_cons_succ]
                        refine wpAnyH_take (i := 9) (oi := { dst := some 91, op := Go.Op.fieldAddr 24 (Go.Operand.tmp 9) 0, type := 0, pos := "law.go:110", after := #[{ on := 8, ground := Go.Ground.guard }], guard := some (8, false) }) (v := ?vv70) rfl (by kernel_rfl) (by kernel_rfl) (by kernel_rfl) (fun _ _ _ h => h) (Or.inl ⟨by rfl, ?hy70⟩) (by assumption) ?rr70
                        case hy70 => intro w hSw; (try dsimp only at hSw); go_simp; all_goals with_reducible rfl
                        try simp only [Act.put, List.setIfInBounds_toArray, List.set_cons_zero, List.set_cons_succ]
                        refine wpAnyH_take (i := 10) (oi := { dst := some 92, op := Go.Op.load 22 (Go.Operand.tmp 91), type := 22, pos := "law.go:110", after := #[{ on := 9, ground := Go.Ground.data }, { on := 8, ground := Go.Ground.guard }], guard := some (8, false) }) (v := ?vv71) rfl (by kernel_rfl) (by kernel_rfl) (by kernel_rfl) (fun _ _ _ h => h) (Or.inl ⟨by rfl, ?hy71⟩) (by assumption) ?rr71
                        case hy71 => intro w hSw; (try dsimp only at hSw); go_simp; all_goals with_reducible rfl
                        try simp only [Act.put, List.setIfInBounds_toArray, List.set_cons_zero, List.set_cons_succ]
                        refine wpAnyH_take (i := 11) (oi := { dst := some 93, op := Go.Op.call { callee := Go.Callee.builtin Go.Builtin.len, args := #[Go.Operand.tmp 92], argTypes := #[22] }, type := 3, pos := "law.go:110", after := #[{ on := 10, ground := Go.Ground.data }, { on := 8, ground := Go.Ground.guard }], guard := some (8, false) }) (v := ?vv72) rfl (by kernel_rfl) (by kernel_rfl) (by kernel_rfl) (fun _ _ _ h => h) (Or.inl ⟨by rfl, ?hy72⟩) (by assumption) ?rr72
                        case hy72 => intro w hSw; (try dsimp only at hSw); go_simp; all_goals with_reducible rfl
                        try simp only [Act.put, List.setIfInBounds_toArray, List.set_cons_zero, List.set_cons_succ]
                        refine wpAnyH_take (i := 12) (oi := { dst := some 94, op := Go.Op.move (Go.Operand.tmp 8), type := 3, pos := "law.go:110", after := #[{ on := 8, ground := Go.Ground.guard }], guard := some (8, false) }) (v := ?vv73) rfl (by kernel_rfl) (by kernel_rfl) (by kernel_rfl) (fun _ _ _ h => h) (Or.inl ⟨by rfl, ?hy73⟩) (by assumption) ?rr73
                        case hy73 => intro w hSw; (try dsimp only at hSw); go_simp; all_goals with_reducible rfl
                        try simp only [Act.put, List.setIfInBounds_toArray, List.set_cons_zero, List.set_cons_succ]
                        refine wpAnyH_take (i := 13) (oi := { dst := some 95, op := Go.Op.binOp Go.BinOp.add 3 (Go.Operand.tmp 94) (Go.Operand.const (Go.Value.int Go.IntKind.i64 1)) 3, type := 3, pos := "law.go:110", after := #[{ on := 12, ground := Go.Ground.data }, { on := 8, ground := Go.Ground.guard }], guard := some (8, false) }) (v := ?vv74) rfl (by kernel_rfl) (by kernel_rfl) (by kernel_rfl) (fun _ _ _ h => h) (Or.inl ⟨by rfl, ?hy74⟩) (by assumption) ?rr74
                        case hy74 => intro w hSw; (try dsimp only at hSw); go_simp; all_goals with_reducible rfl
                        try simp only [Act.put, List.setIfInBounds_toArray, List.set_cons_zero, List.set_cons_succ]
                        refine wpAnyH_take (i := 14) (oi := { dst := some 96, op := Go.Op.binOp Go.BinOp.neq 3 (Go.Operand.tmp 93) (Go.Operand.tmp 95) 3, type := 4, pos := "law.go:110", after := #[{ on := 11, ground := Go.Ground.data }, { on := 13, ground := Go.Ground.data }, { on := 8, ground := Go.Ground.guard }], guard := some (8, false) }) (v := ?vv75) rfl (by kernel_rfl) (by kernel_rfl) (by kernel_rfl) (fun _ _ _ h => h) (Or.inl ⟨by rfl, ?hy75⟩) (by assumption) ?rr75
                        case hy75 => intro w hSw; (try dsimp only at hSw); go_simp; all_goals with_reducible rfl
                        try simp only [Act.put, List.setIfInBounds_toArray, List.set_cons_zero, List.set_cons_succ]
                        rw [HN96.out]
                        refine wpAnyH_take (i := 15) (oi := { dst := some 97, op := Go.Op.pick (Go.Operand.tmp 90) (Go.Operand.const (Go.Value.bool true)) (Go.Operand.tmp 96), type := 4, pos := "law.go:110", after := #[{ on := 8, ground := Go.Ground.data }, { on := 14, ground := Go.Ground.data }], guard := none }) (v := ?vv76) rfl (by kernel_rfl) (by kernel_rfl) (by kernel_rfl) (fun _ _ _ h => h) (Or.inl ⟨by rfl, ?hy76⟩) (by assumption) ?rr76
                        case hy76 => intro w hSw; (try dsimp only at hSw); go_simp; all_goals with_reducible rfl
                        try simp only [Act.put, List.setIfInBounds_toArray, List.set_cons_zero, List.set_cons_succ]
                        refine wpAnyH_take (i := 16) (oi := { dst := some 98, op := Go.Op.move (Go.Operand.tmp 97), type := 4, pos := "law.go:110", after := #[{ on := 15, ground := Go.Ground.data }, { on := 8, ground := Go.Ground.chain }], guard := none }) (v := ?vv77) rfl (by kernel_rfl) (by kernel_rfl) (by kernel_rfl) (fun _ _ _ h => h) (Or.inl ⟨by rfl, ?hy77⟩) (by assumption) ?rr77
                        case hy77 => intro w hSw; (try dsimp only at hSw); go_simp; all_goals with_reducible rfl
                        try simp only [Act.put, List.setIfInBounds_toArray, List.set_cons_zero, List.set_cons_succ]
                        refine wpAnyH_take (i := 17) (oi := { dst := some 99, op := Go.Op.load 24 (Go.Operand.tmp 9), type := 24, pos := "law.go:110", after := #[{ on := 16, ground := Go.Ground.guard }], guard := some (16, false) }) (v := ?vv78) rfl (by kernel_rfl) (by kernel_rfl) (by kernel_rfl) (fun _ _ _ h => h) (Or.inl ⟨by rfl, ?hy78⟩) (by assumption) ?rr78
                        case hy78 => intro w hSw; (try dsimp only at hSw); go_simp; all_goals with_reducible rfl
                        try simp only [Act.put, List.setIfInBounds_toArray, List.set_cons_zero, List.set_cons_succ]
                        refine wpAnyH_ready (rs := [18]) (by kernel_rfl) (by simp) ?_
                        refine AllReadyH.cons (i := 18) (o := { dst := some 100, op := Go.Op.call { callee := Go.Callee.value (Go.Operand.func 20), args := #[Go.Operand.tmp 99], argTypes := #[24] }, type := 4, pos := "law.go:110", after := #[{ on := 17, ground := Go.Ground.data }, { on := 16, ground := Go.Ground.chain }, { on := 16, ground := Go.Ground.guard }], guard := some (16, false) }) rfl (fun K hK => ?_) AllReadyH.nil
                        go_simp
                        go_at_call 20
                        refine (rmay_any b (some ⟨bb, ob, none⟩) cb _ (OB.out.below (((Below.refl _ _).drew))) (may_fit HBM.out)).mono ?_
                        rintro e w' ⟨rfl, hb⟩
                        rw [HBM.out]
                        have HBr := hid (below_in (Below.refl _ w6).drew hb)
                        refine hK.out _ _ ?_ (fun hHeld => ?_)
                        · exact ⟨cell_later hb z0, cell_later hb z1, cell_later hb z2, cell_later hb k1, cell_later hb k2, cell_later hb k3, below_in (Below.refl _ _).drew hb⟩
                        clear hK K
                        try simp only [Act.put, List.setIfInBounds_toArray, List.set_cons_zero, List.set_cons_succ]
                        have hH1 := hHeld
                        clear hHeld hb
                        have hHeld := hH1
                        refine wpAnyH_take (i := 19) (oi := { dst := some 101, op := Go.Op.unOp Go.UnOp.not 4 (Go.Operand.tmp 100), type := 4, pos := "law.go:110", after := #[{ on := 18, ground := Go.Ground.data }, { on := 16, ground := Go.Ground.guard }], guard := some (16, false) }) (v := ?vv79) rfl (by kernel_rfl) (by kernel_rfl) (by kernel_rfl) (fun _ _ _ h => h) (Or.inl ⟨by rfl, ?hy79⟩) (by assumption) ?rr79
                        case hy79 => intro w hSw; (try dsimp only at hSw); go_simp; all_goals with_reducible rfl
                        try simp only [Act.put, List.setIfInBounds_toArray, List.set_cons_zero, List.set_cons_succ]
                        refine wpAnyH_take (i := 20) (oi := { dst := some 102, op := Go.Op.pick (Go.Operand.tmp 98) (Go.Operand.const (Go.Value.bool true)) (Go.Operand.tmp 101), type := 4, pos := "law.go:110", after := #[{ on := 16, ground := Go.Ground.data }, { on := 19, ground := Go.Ground.data }], guard := none }) (v := ?vv80) rfl (by kernel_rfl) (by kernel_rfl) (by kernel_rfl) (fun _ _ _ h => h) (Or.inl ⟨by rfl, ?hy80⟩) (by assumption) ?rr80
                        case hy80 => intro w hSw; (try dsimp only at hSw); go_simp; all_goals with_reducible rfl
                        try simp only [Act.put, List.setIfInBounds_toArray, List.set_cons_zero, List.set_cons_succ]
                        refine wpAnyH_take (i := 21) (oi := { dst := some 103, op := Go.Op.move (Go.Operand.tmp 102), type := 4, pos := "law.go:110", after := #[{ on := 20, ground := Go.Ground.data }, { on := 18, ground := Go.Ground.chain }], guard := none }) (v := ?vv81) rfl (by kernel_rfl) (by kernel_rfl) (by kernel_rfl) (fun _ _ _ h => h) (Or.inl ⟨by rfl, ?hy81⟩) (by assumption) ?rr81
                        case hy81 => intro w hSw; (try dsimp only at hSw); go_simp; all_goals with_reducible rfl
                        try simp only [Act.put, List.setIfInBounds_toArray, List.set_cons_zero, List.set_cons_succ]
                        refine wpAnyH_take (i := 22) (oi := { dst := some 104, op := Go.Op.fieldAddr 24 (Go.Operand.tmp 9) 0, type := 0, pos := "law.go:110", after := #[{ on := 21, ground := Go.Ground.guard }], guard := some (21, false) }) (v := ?vv82) rfl (by kernel_rfl) (by kernel_rfl) (by kernel_rfl) (fun _ _ _ h => h) (Or.inl ⟨by rfl, ?hy82⟩) (by assumption) ?rr82
                        case hy82 => intro w hSw; (try dsimp only at hSw); go_simp; all_goals with_reducible rfl
                        try simp only [Act.put, List.setIfInBounds_toArray, List.set_cons_zero, List.set_cons_succ]
                        refine wpAnyH_take (i := 23) (oi := { dst := some 105, op := Go.Op.load 22 (Go.Operand.tmp 104), type := 22, pos := "law.go:110", after := #[{ on := 22, ground := Go.Ground.data }, { on := 21, ground := Go.Ground.guard }], guard := some (21, false) }) (v := ?vv83) rfl (by kernel_rfl) (by kernel_rfl) (by kernel_rfl) (fun _ _ _ h => h) (Or.inl ⟨by rfl, ?hy83⟩) (by assumption) ?rr83
                        case hy83 => intro w hSw; (try dsimp only at hSw); go_simp; all_goals with_reducible rfl
                        try simp only [Act.put, List.setIfInBounds_toArray, List.set_cons_zero, List.set_cons_succ]
                        refine wpAnyH_take (i := 24) (oi := { dst := some 106, op := Go.Op.move (Go.Operand.tmp 8), type := 3, pos := "law.go:110", after := #[{ on := 21, ground := Go.Ground.guard }], guard := some (21, false) }) (v := ?vv84) rfl (by kernel_rfl) (by kernel_rfl) (by kernel_rfl) (fun _ _ _ h => h) (Or.inl ⟨by rfl, ?hy84⟩) (by assumption) ?rr84
                        case hy84 => intro w hSw; (try dsimp only at hSw); go_simp; all_goals with_reducible rfl
                        try simp only [Act.put, List.setIfInBounds_toArray, List.set_cons_zero, List.set_cons_succ]
                        refine wpAnyH_take (i := 25) (oi := { dst := some 107, op := Go.Op.indexAddr 22 (Go.Operand.tmp 105) (Go.Operand.tmp 106), type := 0, pos := "law.go:110", after := #[{ on := 23, ground := Go.Ground.data }, { on := 24, ground := Go.Ground.data }, { on := 21, ground := Go.Ground.guard }], guard := some (21, false) }) (v := ?vv85) rfl (by kernel_rfl) (by kernel_rfl) (by kernel_rfl) (fun _ _ _ h => h) (Or.inl ⟨by rfl, ?hy85⟩) (by assumption) ?rr85
                        case hy85 => intro w hSw; (try dsimp only at hSw); go_simp; all_goals with_reducible rfl
                        try simp only [Act.put, List.setIfInBounds_toArray, List.set_cons_zero, List.set_cons_succ]
                        refine wpAnyH_take (i := 26) (oi := { dst := some 108, op := Go.Op.fieldAddr 46 (Go.Operand.tmp 107) 1, type := 0, pos := "law.go:110", after := #[{ on := 25, ground := Go.Ground.data }, { on := 21, ground := Go.Ground.guard }], guard := some (21, false) }) (v := ?vv86) rfl (by kernel_rfl) (by kernel_rfl) (by kernel_rfl) (fun _ _ _ h => h) (Or.inl ⟨by rfl, ?hy86⟩) (by assumption) ?rr86
                        case hy86 => intro w hSw; (try dsimp only at hSw); go_simp; all_goals with_reducible rfl
                        try simp only [Act.put, List.setIfInBounds_toArray, List.set_cons_zero, List.set_cons_succ]
                        refine wpAnyH_take (i := 27) (oi := { dst := some 109, op := Go.Op.load 3 (Go.Operand.tmp 108), type := 3, pos := "law.go:110", after := #[{ on := 26, ground := Go.Ground.data }, { on := 21, ground := Go.Ground.guard }], guard := some (21, false) }) (v := ?vv87) rfl (by kernel_rfl) (by kernel_rfl) (by kernel_rfl) (fun _ _ _ h => h) (Or.inl ⟨by rfl, ?hy87⟩) (by assumption) ?rr87
                        case hy87 => intro w hSw; (try dsimp only at hSw); go_simp; all_goals with_reducible rfl
                        try simp only [Act.put, List.setIfInBounds_toArray, List.set_cons_zero, List.set_cons_succ]
                        refine wpAnyH_take (i := 28) (oi := { dst := some 110, op := Go.Op.move (Go.Operand.tmp 1), type := 3, pos := "law.go:110", after := #[{ on := 21, ground := Go.Ground.guard }], guard := some (21, false) }) (v := ?vv88) rfl (by kernel_rfl) (by kernel_rfl) (by kernel_rfl) (fun _ _ _ h => h) (Or.inl ⟨by rfl, ?hy88⟩) (by assumption) ?rr88
                        case hy88 => intro w hSw; (try dsimp only at hSw); go_simp; all_goals with_reducible rfl
                        try simp only [Act.put, List.setIfInBounds_toArray, List.set_cons_zero, List.set_cons_succ]
                        refine wpAnyH_take (i := 29) (oi := { dst := some 111, op := Go.Op.binOp Go.BinOp.neq 3 (Go.Operand.tmp 109) (Go.Operand.tmp 110) 3, type := 4, pos := "law.go:110", after := #[{ on := 27, ground := Go.Ground.data }, { on := 28, ground := Go.Ground.data }, { on := 21, ground := Go.Ground.guard }], guard := some (21, false) }) (v := ?vv89) rfl (by kernel_rfl) (by kernel_rfl) (by kernel_rfl) (fun _ _ _ h => h) (Or.inl ⟨by rfl, ?hy89⟩) (by assumption) ?rr89
                        case hy89 => intro w hSw; (try dsimp only at hSw); go_simp; all_goals with_reducible rfl
                        try simp only [Act.put, List.setIfInBounds_toArray, List.set_cons_zero, List.set_cons_succ]
                        refine wpAnyH_take (i := 30) (oi := { dst := some 112, op := Go.Op.pick (Go.Operand.tmp 103) (Go.Operand.const (Go.Value.bool true)) (Go.Operand.tmp 111), type := 4, pos := "law.go:110", after := #[{ on := 21, ground := Go.Ground.data }, { on := 29, ground := Go.Ground.data }], guard := none }) (v := ?vv90) rfl (by kernel_rfl) (by kernel_rfl) (by kernel_rfl) (fun _ _ _ h => h) (Or.inl ⟨by rfl, ?hy90⟩) (by assumption) ?rr90
                        case hy90 => intro w hSw; (try dsimp only at hSw); go_simp; all_goals with_reducible rfl
                        try simp only [Act.put, List.setIfInBounds_toArray, List.set_cons_zero, List.set_cons_succ]
                        refine wpAnyH_take (i := 31) (oi := { dst := some 113, op := Go.Op.move (Go.Operand.tmp 112), type := 4, pos := "law.go:110", after := #[{ on := 30, ground := Go.Ground.data }, { on := 21, ground := Go.Ground.chain }], guard := none }) (v := ?vv91) rfl (by kernel_rfl) (by kernel_rfl) (by kernel_rfl) (fun _ _ _ h => h) (Or.inl ⟨by rfl, ?hy91⟩) (by assumption) ?rr91
                        case hy91 => intro w hSw; (try dsimp only at hSw); go_simp; all_goals with_reducible rfl
                        try simp only [Act.put, List.setIfInBounds_toArray, List.set_cons_zero, List.set_cons_succ]
                        refine wpAnyH_take (i := 32) (oi := { dst := some 114, op := Go.Op.fieldAddr 24 (Go.Operand.tmp 9) 0, type := 0, pos := "law.go:110", after := #[{ on := 31, ground := Go.Ground.guard }], guard := some (31, false) }) (v := ?vv92) rfl (by kernel_rfl) (by kernel_rfl) (by kernel_rfl) (fun _ _ _ h => h) (Or.inl ⟨by rfl, ?hy92⟩) (by assumption) ?rr92
                        case hy92 => intro w hSw; (try dsimp only at hSw); go_simp; all_goals with_reducible rfl
                        try simp only [Act.put, List.setIfInBounds_toArray, List.set_cons_zero, List.set_cons_succ]
                        refine wpAnyH_take (i := 33) (oi := { dst := some 115, op := Go.Op.load 22 (Go.Operand.tmp 114), type := 22, pos := "law.go:110", after := #[{ on := 32, ground := Go.Ground.data }, { on := 31, ground := Go.Ground.guard }], guard := some (31, false) }) (v := ?vv93) rfl (by kernel_rfl) (by kernel_rfl) (by kernel_rfl) (fun _ _ _ h => h) (Or.inl ⟨by rfl, ?hy93⟩) (by assumption) ?rr93
                        case hy93 => intro w hSw; (try dsimp only at hSw); go_simp; all_goals with_reducible rfl
                        try simp only [Act.put, List.setIfInBounds_toArray, List.set_cons_zero, List.set_cons_succ]
                        refine wpAnyH_take (i := 34) (oi := { dst := some 116, op := Go.Op.move (Go.Operand.tmp 8), type := 3, pos := "law.go:110", after := #[{ on := 31, ground := Go.Ground.guard }], guard := some (31, false) }) (v := ?vv94) rfl (by kernel_rfl) (by kernel_rfl) (by kernel_rfl) (fun _ _ _ h => h) (Or.inl ⟨by rfl, ?hy94⟩) (by assumption) ?rr94
                        case hy94 => intro w hSw; (try dsimp only at hSw); go_simp; all_goals with_reducible rfl
                        try simp only [Act.put, List.setIfInBounds_toArray, List.set_cons_zero, List.set_cons_succ]
                        refine wpAnyH_take (i := 35) (oi := { dst := some 117, op := Go.Op.indexAddr 22 (Go.Operand.tmp 115) (Go.Operand.tmp 116), type := 0, pos := "law.go:110", after := #[{ on := 33, ground := Go.Ground.data }, { on := 34, ground := Go.Ground.data }, { on := 31, ground := Go.Ground.guard }], guard := some (31, false) }) (v := ?vv95) rfl (by kernel_rfl) (by kernel_rfl) (by kernel_rfl) (fun _ _ _ h => h) (Or.inl ⟨by rfl, ?hy95⟩) (by assumption) ?rr95
                        case hy95 => intro w hSw; (try dsimp only at hSw); go_simp; all_goals with_reducible rfl
                        try simp only [Act.put, List.setIfInBounds_toArray, List.set_cons_zero, List.set_cons_succ]
                        refine wpAnyH_take (i := 36) (oi := { dst := some 118, op := Go.Op.fieldAddr 46 (Go.Operand.tmp 117) 2, type := 0, pos := "law.go:110", after := #[{ on := 35, ground := Go.Ground.data }, { on := 31, ground := Go.Ground.guard }], guard := some (31, false) }) (v := ?vv96) rfl (by kernel_rfl) (by kernel_rfl) (by kernel_rfl) (fun _ _ _ h => h) (Or.inl ⟨by rfl, ?hy96⟩) (by assumption) ?rr96
                        case hy96 => intro w hSw; (try dsimp only at hSw); go_simp; all_goals with_reducible rfl
                        try simp only [Act.put, List.setIfInBounds_toArray, List.set_cons_zero, List.set_cons_succ]
                        refine wpAnyH_take (i := 37) (oi := { dst := some 119, op := Go.Op.load 44 (Go.Operand.tmp 118), type := 44, pos := "law.go:110", after := #[{ on := 36, ground := Go.Ground.data }, { on := 31, ground := Go.Ground.guard }], guard := some (31, false) }) (v := ?vv97) rfl (by kernel_rfl) (by kernel_rfl) (by kernel_rfl) (fun _ _ _ h => h) (Or.inl ⟨by rfl, ?hy97⟩) (by assumption) ?rr97
                        case hy97 => intro w hSw; (try dsimp only at hSw); go_simp; all_goals with_reducible rfl
                        try simp only [Act.put, List.setIfInBounds_toArray, List.set_cons_zero, List.set_cons_succ]
                        refine wpAnyH_take (i := 38) (oi := { dst := some 120, op := Go.Op.call { callee := Go.Callee.builtin Go.Builtin.len, args := #[Go.Operand.tmp 119], argTypes := #[44] }, type := 3, pos := "law.go:110", after := #[{ on := 37, ground := Go.Ground.data }, { on := 31, ground := Go.Ground.guard }], guard := some (31, false) }) (v := ?vv98) rfl (by kernel_rfl) (by kernel_rfl) (by kernel_rfl) (fun _ _ _ h => h) (Or.inl ⟨by rfl, ?hy98⟩) (by assumption) ?rr98
                        case hy98 => intro w hSw; (try dsimp only at hSw); go_simp; all_goals with_reducible rfl
                        try simp only [Act.put, List.setIfInBounds_toArray, List.set_cons_zero, List.set_cons_succ]
                        refine wpAnyH_take (i := 39) (oi := { dst := some 121, op := Go.Op.fieldAddr 24 (Go.Operand.tmp 9) 0, type := 0, pos := "law.go:110", after := #[{ on := 31, ground := Go.Ground.guard }], guard := some (31, false) }) (v := ?vv99) rfl (by kernel_rfl) (by kernel_rfl) (by kernel_rfl) (fun _ _ _ h => h) (Or.inl ⟨by rfl, ?hy99⟩) (by assumption) ?rr99
                        case hy99 => intro w hSw; (try dsimp only at hSw); go_simp; all_goals with_reducible rfl
                        try simp only [Act.put, List.setIfInBounds_toArray, List.set_cons_zero, List.set_cons_succ]
                        refine wpAnyH_take (i := 40) (oi := { dst := some 122, op := Go.Op.load 22 (Go.Operand.tmp 121), type := 22, pos := "law.go:110", after := #[{ on := 39, ground := Go.Ground.data }, { on := 31, ground := Go.Ground.guard }], guard := some (31, false) }) (v := ?vv100) rfl (by kernel_rfl) (by kernel_rfl) (by kernel_rfl) (fun _ _ _ h => h) (Or.inl ⟨by rfl, ?hy100⟩) (by assumption) ?rr100
                        case hy100 => intro w hSw; (try dsimp only at hSw); go_simp; all_goals with_reducible rfl
                        try simp only [Act.put, List.setIfInBounds_toArray, List.set_cons_zero, List.set_cons_succ]
                        refine wpAnyH_take (i := 41) (oi := { dst := some 123, op := Go.Op.move (Go.Operand.tmp 8), type := 3, pos := "law.go:110", after := #[{ on := 31, ground := Go.Ground.guard }], guard := some (31, false) }) (v := ?vv101) rfl (by kernel_rfl) (by kernel_rfl) (by kernel_rfl) (fun _ _ _ h => h) (Or.inl ⟨by rfl, ?hy101⟩) (by assumption) ?rr101
                        case hy101 => intro w hSw; (try dsimp only at hSw); go_simp; all_goals with_reducible rfl
                        try simp only [Act.put, List.setIfInBounds_toArray, List.set_cons_zero, List.set_cons_succ]
                        refine wpAnyH_take (i := 42) (oi := { dst := some 124, op := Go.Op.indexAddr 22 (Go.Operand.tmp 122) (Go.Operand.tmp 123), type := 0, pos := "law.go:110", after := #[{ on := 40, ground := Go.Ground.data }, { on := 41, ground := Go.Ground.data }, { on := 31, ground := Go.Ground.guard }], guard := some (31, false) }) (v := ?vv102) rfl (by kernel_rfl) (by kernel_rfl) (by kernel_rfl) (fun _ _ _ h => h) (Or.inl ⟨by rfl, ?hy102⟩) (by assumption) ?rr102
                        case hy102 => intro w hSw; (try dsimp only at hSw); go_simp; all_goals with_reducible rfl
                        try simp only [Act.put, List.setIfInBounds_toArray, List.set_cons_zero, List.set_cons_succ]
                        refine wpAnyH_take (i := 43) (oi := { dst := some 125, op := Go.Op.fieldAddr 46 (Go.Operand.tmp 124) 3, type := 0, pos := "law.go:110", after := #[{ on := 42, ground := Go.Ground.data }, { on := 31, ground := Go.Ground.guard }], guard := some (31, false) }) (v := ?vv103) rfl (by kernel_rfl) (by kernel_rfl) (by kernel_rfl) (fun _ _ _ h => h) (Or.inl ⟨by rfl, ?hy103⟩) (by assumption) ?rr103
                        case hy103 => intro w hSw; (try dsimp only at hSw); go_simp; all_goals with_reducible rfl
                        try simp only [Act.put, List.setIfInBounds_toArray, List.set_cons_zero, List.set_cons_succ]
                        refine wpAnyH_take (i := 44) (oi := { dst := some 126, op := Go.Op.load 9 (Go.Operand.tmp 125), type := 9, pos := "law.go:110", after := #[{ on := 43, ground := Go.Ground.data }, { on := 31, ground := Go.Ground.guard }], guard := some (31, false) }) (v := ?vv104) rfl (by kernel_rfl) (by kernel_rfl) (by kernel_rfl) (fun _ _ _ h => h) (Or.inl ⟨by rfl, ?hy104⟩) (by assumption) ?rr104
                        case hy104 => intro w hSw; (try dsimp only at hSw); go_simp; all_goals with_reducible rfl
                        try simp only [Act.put, List.setIfInBounds_toArray, List.set_cons_zero, List.set_cons_succ]
                        refine wpAnyH_take (i := 45) (oi := { dst := some 127, op := Go.Op.call { callee := Go.Callee.builtin Go.Builtin.len, args := #[Go.Operand.tmp 126], argTypes := #[9] }, type := 3, pos := "law.go:110", after := #[{ on := 44, ground := Go.Ground.data }, { on := 31, ground := Go.Ground.guard }], guard := some (31, false) }) (v := ?vv105) rfl (by kernel_rfl) (by kernel_rfl) (by kernel_rfl) (fun _ _ _ h => h) (Or.inl ⟨by rfl, ?hy105⟩) (by assumption) ?rr105
                        case hy105 => intro w hSw; (try dsimp only at hSw); go_simp; all_goals with_reducible rfl
                        try simp only [Act.put, List.setIfInBounds_toArray, List.set_cons_zero, List.set_cons_succ]
                        refine wpAnyH_take (i := 46) (oi := { dst := some 128, op := Go.Op.binOp Go.BinOp.add 3 (Go.Operand.tmp 120) (Go.Operand.tmp 127) 3, type := 3, pos := "law.go:110", after := #[{ on := 38, ground := Go.Ground.data }, { on := 45, ground := Go.Ground.data }, { on := 31, ground := Go.Ground.guard }], guard := some (31, false) }) (v := ?vv106) rfl (by kernel_rfl) (by kernel_rfl) (by kernel_rfl) (fun _ _ _ h => h) (Or.inl ⟨by rfl, ?hy106⟩) (by assumption) ?rr106
                        case hy106 => intro w hSw; (try dsimp only at hSw); go_simp; all_goals with_reducible rfl
                        try simp only [Act.put, List.setIfInBounds_toArray, List.set_cons_zero, List.set_cons_succ]
                        refine wpAnyH_take (i := 47) (oi := { dst := some 129, op := Go.Op.move (Go.Operand.tmp 2), type := 3, pos := "law.go:110", after := #[{ on := 31, ground := Go.Ground.guard }], guard := some (31, false) }) (v := ?vv107) rfl (by kernel_rfl) (by kernel_rfl) (by kernel_rfl) (fun _ _ _ h => h) (Or.inl ⟨by rfl, ?hy107⟩) (by assumption) ?rr107
                        case hy107 => intro w hSw; (try dsimp only at hSw); go_simp; all_goals with_reducible rfl
                        try simp only [Act.put, List.setIfInBounds_toArray, List.set_cons_zero, List.set_cons_succ]
                        refine wpAnyH_take (i := 48) (oi := { dst := some 130, op := Go.Op.binOp Go.BinOp.neq 3 (Go.Operand.tmp 128) (Go.Operand.tmp 129) 3, type := 4, pos := "law.go:110", after := #[{ on := 46, ground := Go.Ground.data }, { on := 47, ground := Go.Ground.data }, { on := 31, ground := Go.Ground.guard }], guard := some (31, false) }) (v := ?vv108) rfl (by kernel_rfl) (by kernel_rfl) (by kernel_rfl) (fun _ _ _ h => h) (Or.inl ⟨by rfl, ?hy108⟩) (by assumption) ?rr108
                        case hy108 => intro w hSw; (try dsimp only at hSw); go_simp; all_goals with_reducible rfl
                        try simp only [Act.put, List.setIfInBounds_toArray, List.set_cons_zero, List.set_cons_succ]
                        rw [HSZ.out]
                        refine wpAnyH_take (i := 49) (oi := { dst := some 131, op := Go.Op.pick (Go.Operand.tmp 113) (Go.Operand.const (Go.Value.bool true)) (Go.Operand.tmp 130), type := 4, pos := "law.go:110", after := #[{ on := 31, ground := Go.Ground.data }, { on := 48, ground := Go.Ground.data }], guard := none }) (v := ?vv109) rfl (by kernel_rfl) (by kernel_rfl) (by kernel_rfl) (fun _ _ _ h => h) (Or.inl ⟨by rfl, ?hy109⟩) (by assumption) ?rr109
                        case hy109 => intro w hSw; (try dsimp only at hSw); go_simp; all_goals with_reducible rfl
                        try simp only [Act.put, List.setIfInBounds_toArray, List.set_cons_zero, List.set_cons_succ]
                        refine wpAnyH_done (by kernel_rfl) ?_ _
                        have hHeldB := hHeld.2.2.2.2.2.2
                        have TAw := hid (TA.out.later hHeldB)
                        have TXw := hid (TX.out.later hHeldB)
                        have TBw := hid (TB.out.later hHeldB)
                        have OWw := hid (OW.out.later hHeldB)
                        have OAw := hid (OA.out.below hHeldB)
                        have HWw := hid (below_in HW5.out hHeldB)
                        clear hHeld hHeldB hH1
                        rename World => w7
                        have HCBw := hid (OB.out.below HBr.out)
                        clear k1 k2 k3 z0 z1 z2 HCB HBr
                        go_wp2_with fail
                        go_loopw [12] (fun i wr => ∃ k : Nat, k ≤ n ∧ i = .int .i64 k ∧ Below w7.heap.size w7 wr) (fun i _ => n - (intOf i).toNat)
                        case atStart => exact ⟨0, Nat.zero_le _, rfl, Below.refl _ _⟩
                        case round =>
                          obtain ⟨k, hk, rfl, hbw⟩ := hrel
                          rename World => wi
                          have HV := hid hbw
                          have z0 := (TBw.out.later hbw).cell 0
                          have z1 := (TBw.out.later hbw).cell 1
                          have z2 := (TBw.out.later hbw).cell 2
                          have t0 := (TAw.out.later hbw).cell 0
                          have t1 := (TAw.out.later hbw).cell 1
                          have t2 := (TAw.out.later hbw).cell 2
                          simp only [List.getElem?_toArray, List.getElem?_cons_zero, List.getElem?_cons_succ] at z0 z1 z2 t0 t1 t2
                          by_cases hkn : k < n
                          · obtain ⟨ba, oa, rfl, hba, hca⟩ := (OAw.out.below hbw) (by have := HLN.out; omega)
                            have hka : k < a.objs.length := by have := HLN.out; omega
                            have hoa := List.getElem?_eq_getElem hka
                            obtain ⟨Sa, da, ⟨m0, m1, m2, m3, m4, m5⟩, hia, -, -⟩ := hca k _ hoa
                            obtain ⟨bb', ob', hbe, hbb', hcb'⟩ := (HCBw.out.below hbw) (by omega)
                            simp only [Option.some.injEq, Addr.mk.injEq, and_true] at hbe
                            obtain ⟨rfl, rfl⟩ := hbe
                            obtain ⟨Sb, db, ⟨n0, n1, n2, n3, n4, n5⟩, hib, -, -⟩ := hcb' k _ (HBI.out k _ hoa)
                            have hol := (may_fit HAM.out).slots (List.getElem_mem hka)
                            obtain ⟨p, hp⟩ : ∃ p, p = a.objs[k] := ⟨_, rfl⟩
                            rw [← hp] at m0 m1 m2 m3 m4 m5 n0 n1 n2 n3 n4 n5 hia hib hol
                            have HIA := hid hia
                            have HIB := hid hib
                            have hkb : k < b.objs.length := by omega
                            clear hca hcb' hoa hp hia hib hbw
                            go_wp2_with fail
                            refine wp_region_held_drew (S := (fun w' => w'.cell? ⟨w3.heap.size, 0, none⟩ = some (.slice (some ⟨ba, oa, none⟩) a.objs.length ca) ∧ w'.cell? ⟨w3.heap.size, 1, none⟩ = some (.int .i64 a.cap) ∧ w'.cell? ⟨w3.heap.size, 2, none⟩ = some (.int .i64 a.last) ∧ w'.cell? ⟨w5.heap.size, 0, none⟩ = some (.slice (some ⟨bb, ob, none⟩) b.objs.length cb) ∧ w'.cell? ⟨w5.heap.size, 1, none⟩ = some (.int .i64 b.cap) ∧ w'.cell? ⟨w5.heap.size, 2, none⟩ = some (.int .i64 b.last) ∧ w'.cell? ⟨ba, oa + k * 6, none⟩ = some (.int .i64 p.cls) ∧ w'.cell? ⟨ba, oa + k * 6 + 1, none⟩ = some (.int .i64 p.kind) ∧ w'.cell? ⟨ba, oa + k * 6 + 2, none⟩ = some (.slice Sa p.slots.length da) ∧ w'.cell? ⟨ba, oa + k * 6 + 3, none⟩ = some (.string p.text) ∧ w'.cell? ⟨ba, oa + k * 6 + 4, none⟩ = some (.int .i64 p.bits) ∧ w'.cell? ⟨ba, oa + k * 6 + 5, none⟩ = some (.int .i64 p.hash) ∧ w'.cell? ⟨bb, ob + k * 6, none⟩ = some (.int .i64 p.cls) ∧ w'.cell? ⟨bb, ob + k * 6 + 1, none⟩ = some (.int .i64 p.kind) ∧ w'.cell? ⟨bb, ob + k * 6 + 2, none⟩ = some (.slice Sb p.slots.length db) ∧ w'.cell? ⟨bb, ob + k * 6 + 3, none⟩ = some (.string p.text) ∧ w'.cell? ⟨bb, ob + k * 6 + 4, none⟩ = some (.int .i64 p.bits) ∧ w'.cell? ⟨bb, ob + k * 6 + 5, none⟩ = some (.int .i64 p.hash) ∧ Below wi.heap.size wi w')) (by kernel_rfl) ?_ (fun hHeld => ?_)
                            · exact ⟨t0, t1, t2, z0, z1, z2, m0, m1, m2, m3, m4, m5, n0, n1, n2, n3, n4, n5, (Below.refl _ _).drew⟩
                            refine wpAnyH_take (i := 0) (oi := { dst := some 137, op := Go.Op.fieldAddr 24 (Go.Operand.tmp 7) 0, type := 0, pos := "law.go:114", after := #[], guard := none }) (v := ?vv110) rfl (by kernel_rfl) (by kernel_rfl) (by kernel_rfl) (fun _ _ _ h => h) (Or.inl ⟨by rfl, ?hy110⟩) (by assumption) ?rr110
                            case hy110 => intro w hSw; (try dsimp only at hSw); go_simp; all_goals with_reducible rfl
                            try simp only [Act.put, List.setIfInBounds_toArray, List.set_cons_zero, List.set_cons_succ]
                            refine wpAnyH_take (i := 1) (oi := { dst := some 138, op := Go.Op.load 22 (Go.Operand.tmp 137), type := 22, pos := "law.go:114", after := #[{ on := 0, ground := Go.Ground.data }], guard := none }) (v := ?vv111) rfl (by kernel_rfl) (by kernel_rfl) (by kernel_rfl) (fun _ _ _ h => h) (Or.inl ⟨by rfl, ?hy111⟩) (by assumption) ?rr111
                            case hy111 => intro w hSw; (try dsimp only at hSw); go_simp; all_goals with_reducible rfl
                            try simp only [Act.put, List.setIfInBounds_toArray, List.set_cons_zero, List.set_cons_succ]
                            refine wpAnyH_take (i := 2) (oi := { dst := some 139, op := Go.Op.move (Go.Operand.tmp 12), type := 3, pos := "law.go:114", after := #[], guard := none }) (v := ?vv112) rfl (by kernel_rfl) (by kernel_rfl) (by kernel_rfl) (fun _ _ _ h => h) (Or.inl ⟨by rfl, ?hy112⟩) (by assumption) ?rr112
                            case hy112 => intro w hSw; (try dsimp only at hSw); go_simp; all_goals with_reducible rfl
                            try simp only [Act.put, List.setIfInBounds_toArray, List.set_cons_zero, List.set_cons_succ]
                            refine wpAnyH_take (i := 3) (oi := { dst := some 140, op := Go.Op.indexAddr 22 (Go.Operand.tmp 138) (Go.Operand.tmp 139), type := 0, pos := "law.go:114", after := #[{ on := 1, ground := Go.Ground.data }, { on := 2, ground := Go.Ground.data }], guard := none }) (v := ?vv113) rfl (by kernel_rfl) (by kernel_rfl) (by kernel_rfl) (fun _ _ _ h => h) (Or.inl ⟨by rfl, ?hy113⟩) (by assumption) ?rr113
                            case hy113 => intro w hSw; (try dsimp only at hSw); go_simp; all_goals with_reducible rfl
                            try simp only [Act.put, List.setIfInBounds_toArray, List.set_cons_zero, List.set_cons_succ]
                            refine wpAnyH_take (i := 4) (oi := { dst := some 141, op := Go.Op.load 46 (Go.Operand.tmp 140), type := 46, pos := "law.go:114", after := #[{ on := 3, ground := Go.Ground.data }], guard := none }) (v := ?vv114) rfl (by kernel_rfl) (by kernel_rfl) (by kernel_rfl) (fun _ _ _ h => h) (Or.inl ⟨by rfl, ?hy114⟩) (by assumption) ?rr114
                            case hy114 => intro w hSw; (try dsimp only at hSw); go_simp; all_goals with_reducible rfl
                            try simp only [Act.put, List.setIfInBounds_toArray, List.set_cons_zero, List.set_cons_succ]
                            refine wpAnyH_take (i := 5) (oi := { dst := some 142, op := Go.Op.fieldAddr 24 (Go.Operand.tmp 9) 0, type := 0, pos := "law.go:114", after := #[], guard := none }) (v := ?vv115) rfl (by kernel_rfl) (by kernel_rfl) (by kernel_rfl) (fun _ _ _ h => h) (Or.inl ⟨by rfl, ?hy115⟩) (by assumption) ?rr115
                            case hy115 => intro w hSw; (try dsimp only at hSw); go_simp; all_goals with_reducible rfl
                            try simp only [Act.put, List.setIfInBounds_toArray, List.set_cons_zero, List.set_cons_succ]
                            refine wpAnyH_take (i := 6) (oi := { dst := some 143, op := Go.Op.load 22 (Go.Operand.tmp 142), type := 22, pos := "law.go:114", after := #[{ on := 5, ground := Go.Ground.data }], guard := none }) (v := ?vv116) rfl (by kernel_rfl) (by kernel_rfl) (by kernel_rfl) (fun _ _ _ h => h) (Or.inl ⟨by rfl, ?hy116⟩) (by assumption) ?rr116
                            case hy116 => intro w hSw; (try dsimp only at hSw); go_simp; all_goals with_reducible rfl
                            try simp only [Act.put, List.setIfInBounds_toArray, List.set_cons_zero, List.set_cons_succ]
                            refine wpAnyH_take (i := 7) (oi := { dst := some 144, op := Go.Op.move (Go.Operand.tmp 12), type := 3, pos := "law.go:114", after := #[], guard := none }) (v := ?vv117) rfl (by kernel_rfl) (by kernel_rfl) (by kernel_rfl) (fun _ _ _ h => h) (Or.inl ⟨by rfl, ?hy117⟩) (by assumption) ?rr117
                            case hy117 => intro w hSw; (try dsimp only at hSw); go_simp; all_goals with_reducible rfl
                            try simp only [Act.put, List.setIfInBounds_toArray, List.set_cons_zero, List.set_cons_succ]
                            refine wpAnyH_take (i := 8) (oi := { dst := some 145, op := Go.Op.indexAddr 22 (Go.Operand.tmp 143) (Go.Operand.tmp 144), type := 0, pos := "law.go:114", after := #[{ on := 6, ground := Go.Ground.data }, { on := 7, ground := Go.Ground.data }], guard := none }) (v := ?vv118) rfl (by kernel_rfl) (by kernel_rfl) (by kernel_rfl) (fun _ _ _ h => h) (Or.inl ⟨by rfl, ?hy118⟩) (by assumption) ?rr118
                            case hy118 => intro w hSw; (try dsimp only at hSw); go_simp; all_goals with_reducible rfl
                            try simp only [Act.put, List.setIfInBounds_toArray, List.set_cons_zero, List.set_cons_succ]
                            refine wpAnyH_take (i := 9) (oi := { dst := some 146, op := Go.Op.load 46 (Go.Operand.tmp 145), type := 46, pos := "law.go:114", after := #[{ on := 8, ground := Go.Ground.data }], guard := none }) (v := ?vv119) rfl (by kernel_rfl) (by kernel_rfl) (by kernel_rfl) (fun _ _ _ h => h) (Or.inl ⟨by rfl, ?hy119⟩) (by assumption) ?rr119
                            case hy119 => intro w hSw; (try dsimp only at hSw); go_simp; all_goals with_reducible rfl
                            try simp only [Act.put, List.setIfInBounds_toArray, List.set_cons_zero, List.set_cons_succ]
                            refine wpAnyH_ready (rs := [10]) (by kernel_rfl) (by simp) ?_
                            refine AllReadyH.cons (i := 10) (o := { dst := some 147, op := Go.Op.call { callee := Go.Callee.value (Go.Operand.func 34), args := #[Go.Operand.tmp 141, Go.Operand.tmp 146], argTypes := #[46, 46] }, type := 4, pos := "law.go:114", after := #[{ on := 4, ground := Go.Ground.data }, { on := 9, ground := Go.Ground.data }], guard := none }) rfl (fun K hK => ?_) AllReadyH.nil
                            go_simp
                            go_at_call 34
                            refine (one_same p Sa Sb da db _ (HIA.out.below (((Below.refl _ _).drew))) (HIB.out.below (((Below.refl _ _).drew))) hol).mono ?_
                            rintro e w' ⟨rfl, hb⟩
                            refine hK.out _ _ ?_ (fun hHeld => ?_)
                            · exact ⟨cell_later hb t0, cell_later hb t1, cell_later hb t2, cell_later hb z0, cell_later hb z1, cell_later hb z2, cell_later hb m0, cell_later hb m1, cell_later hb m2, cell_later hb m3, cell_later hb m4, cell_later hb m5, cell_later hb n0, cell_later hb n1, cell_later hb n2, cell_later hb n3, cell_later hb n4, cell_later hb n5, below_in (Below.refl _ _).drew hb⟩
                            clear hK K
                            try simp only [Act.put, List.setIfInBounds_toArray, List.set_cons_zero, List.set_cons_succ]
                            have hH1 := hHeld
                            clear hHeld hb
                            have hHeld := hH1
                            refine wpAnyH_take (i := 11) (oi := { dst := some 148, op := Go.Op.unOp Go.UnOp.not 4 (Go.Operand.tmp 147), type := 4, pos := "law.go:114", after := #[{ on := 10, ground := Go.Ground.data }], guard := none }) (v := ?vv120) rfl (by kernel_rfl) (by kernel_rfl) (by kernel_rfl) (fun _ _ _ h => h) (Or.inl ⟨by rfl, ?hy120⟩) (by assumption) ?rr120
                            case hy120 => intro w hSw; (try dsimp only at hSw); go_simp; all_goals with_reducible rfl
                            try simp only [Act.put, List.setIfInBounds_toArray, List.set_cons_zero, List.set_cons_succ]
                            refine wpAnyH_done (by kernel_rfl) ?_ _
                            have hHeldB := hHeld.2.2.2.2.2.2.2.2.2.2.2.2.2.2.2.2.2.2
                            go_wp2_with fail
                            go_roundw
                            case rel => exact ⟨k + 1, by omega, by go_num, below_in HV.out hHeldB⟩
                            case measure => simp [intOf]; omega
                          · have f0 := (TAw.out.later hbw).frozen 0
                            have f1 := (TAw.out.later hbw).frozen 1
                            have f2 := (TAw.out.later hbw).frozen 2
                            have TAv := hid (TAw.out.later hbw)
                            have OWv := hid (OWw.out.later hbw)
                            have TXv := hid (TXw.out.later hbw)
                            have HWv := hid (below_in HWw.out hbw)
                            clear hbw
                            go_wp2_with fail
                            go_roundw
                            case rel =>
                              refine ⟨n + 1, b, _, cb, by omega, by omega, by go_num, HBL.out, HBC.out, HBM.out, own_obs (own_off3 OWv.out TAv.out _ _ _) HLB.out, ?_, ?_, ?_⟩
                              · simpa using ((TAv.out.set_ 0 (.slice (some ⟨bb, ob, none⟩) b.objs.length cb)).set_ 1 (.int .i64 b.cap)).set_ 2 (.int .i64 b.last)
                              · exact ((TXv.out.far (p := ⟨w3.heap.size, 0, none⟩) (by show _ ≠ w3.heap.size; omega) _).far (p := ⟨w3.heap.size, 1, none⟩) (by show _ ≠ w3.heap.size; omega) _).far (p := ⟨w3.heap.size, 2, none⟩) (by show _ ≠ w3.heap.size; omega) _
                              · exact ((HWv.out.setCell (p := ⟨w3.heap.size, 0, none⟩) (by simp; omega) _).setCell (p := ⟨w3.heap.size, 1, none⟩) (by simp; omega) _).setCell (p := ⟨w3.heap.size, 2, none⟩) (by simp; omega) _
                            case measure => simp [intOf]; omega
                      · have hcap : a.cap ≤ (a.objs.length : Int) := by rw [hal, hac]; omega
                        have ha0 : 0 < a.objs.length := by have := H0.out; omega
                        obtain ⟨f1, f2, f3⟩ := fills_full HAM.out SZ.out ha0 hcap
                        have HA := alloc_any a 0 kind size Aa ca wo HAO.out (may_fit HAM.out)
                        rw [f1, f2, f3] at HA
                        have HAA := hid HA
                        clear HA f1 f2 f3 hal hac hcap
                        go_wp2_with fail
                        refine HAA.out.mono ?_
                        rintro e w5 ⟨Ab, cb, lb, rfl, hlb, hob, hb5⟩
                        have HAL := hid (below_alloc w5 (.cells #[Value.slice Ab a.objs.length cb, Value.int .i64 a.cap, Value.int .i64 a.last] 24))
                        have OB := hid ((own_obs hob hlb).below HAL.out)
                        have OA := hid ((HAO.out.below hb5).below HAL.out)
                        have TA := hid ((HTA.out.later hb5).later HAL.out)
                        have TB := hid (Lies.new w5 24 #[Value.slice Ab a.objs.length cb, Value.int .i64 a.cap, Value.int .i64 a.last])
                        have HW5 := hid (below_in (below_in HW.out hb5) HAL.out)
                        clear hob hlb hb5 t0 t1 t2 x1
                        have t0 := TA.out.cell 0
                        have t1 := TA.out.cell 1
                        have t2 := TA.out.cell 2
                        simp only [List.getElem?_toArray, List.getElem?_cons_zero, List.getElem?_cons_succ] at t0 t1 t2
                        go_wp2_with fail
                        refine (same_any a Aa Ab ca cb _ OA.out OB.out (may_fit HAM.out)).mono ?_
                        rintro e w7 ⟨rfl, hb7⟩
                        have HW7 := hid (below_in HW5.out hb7)
                        clear hb7
                        go_wp2_with fail
                        go_ret
                        exact ⟨rfl, HW7.out⟩
end Go.Proofs.Ytpeojbkbeigahaa
