/- LookHides walked: whatever heap, class and selector, it answers true. -/
import Derived.Test.YtfdjghllnbiffaaWF9
import Derived.Test.YtfdjghllnbiffaaSF9
import Derived.Test.YtfdjghllnbiffaaN
namespace Go.Proofs.Ytfdjghllnbiffaa
open Go.RowKit
set_option maxRecDepth 100000
theorem slots64_9 {h : Hp} {v : Int} (hm : mayB h = true) (hr : refB h.objs.length v = true) : (obAt h v).slots.length ≤ 64 := by
  obtain ⟨i, hi, hv, ho⟩ := obAt_get hr
  exact (kind_len (ob_kind (may_all hm _ (List.mem_of_getElem? ho)))).1
set_option maxHeartbeats 2000000 in
theorem hides9_any (h : Hp) (c s : Int) (A : Option Addr) (d : Nat) (w : World) (hs : ObsR w A h.objs) (fit : h.Fit) :
    Calls Try.prog 9 #[.agg #[.slice A h.objs.length d, .int .i64 h.cap, .int .i64 h.last], .int .i64 c, .int .i64 s] w fun e w' => e = .returned (.bool true) ∧ Below w.heap.size w w' := by
  have HB0 := hid (below_alloc w (.cells #[Value.slice A h.objs.length d, Value.int .i64 h.cap, Value.int .i64 h.last] 24))
  have X0 := hid (Lies.new w 24 #[Value.slice A h.objs.length d, Value.int .i64 h.cap, Value.int .i64 h.last])
  have O0 := hid (hs.below HB0.out)
  have HSO := hid hs
  have HF := hid fit
  clear hs fit
  go_enter Try.func9, Try.ntmps9
  have x0 := X0.out.cell 0
  have x1 := X0.out.cell 1
  have x2 := X0.out.cell 2
  simp only [List.getElem?_toArray, List.getElem?_cons_zero, List.getElem?_cons_succ] at x0 x1 x2
  go_wp2_with fail
  refine (fixed9_any _).mono ?_
  rintro e w1 ⟨rfl, hb⟩
  have HB1 := hid (HB0.out.trans (hb.mono HB0.out.size))
  have X1 := hid (X0.out.later hb)
  have O1 := hid (O0.out.below hb)
  clear x0 x1 x2
  clear hb
  have x0 := X1.out.cell 0
  have x1 := X1.out.cell 1
  have x2 := X1.out.cell 2
  simp only [List.getElem?_toArray, List.getElem?_cons_zero, List.getElem?_cons_succ] at x0 x1 x2
  go_wp2_with fail
  refine (small_ok h A d _ O1.out HF.out).mono ?_
  rintro e w2 ⟨sm, rfl, hb⟩
  have HB2 := hid (HB1.out.trans (hb.mono HB1.out.size))
  have X2 := hid (X1.out.later hb)
  have O2 := hid (O1.out.below hb)
  clear x0 x1 x2
  clear hb
  have x0 := X2.out.cell 0
  have x1 := X2.out.cell 1
  have x2 := X2.out.cell 2
  simp only [List.getElem?_toArray, List.getElem?_cons_zero, List.getElem?_cons_succ] at x0 x1 x2
  cases sm
  · go_wp2_with fail
    refine (fixed9_any _).mono ?_
    rintro e w3 ⟨rfl, hb⟩
    have HB3 := hid (HB2.out.trans (hb.mono HB2.out.size))
    have X3 := hid (X2.out.later hb)
    have O3 := hid (O2.out.below hb)
    clear x0 x1 x2
    clear hb
    have x0 := X3.out.cell 0
    have x1 := X3.out.cell 1
    have x2 := X3.out.cell 2
    simp only [List.getElem?_toArray, List.getElem?_cons_zero, List.getElem?_cons_succ] at x0 x1 x2
    go_wp2_with fail
    go_ret
    exact ⟨rfl, HB3.out⟩
  · go_wp2_with fail
    refine (rmay_any h A d _ O2.out HF.out).mono ?_
    rintro e w3 ⟨rfl, hb⟩
    have HB3 := hid (HB2.out.trans (hb.mono HB2.out.size))
    have X3 := hid (X2.out.later hb)
    have O3 := hid (O2.out.below hb)
    clear x0 x1 x2
    clear hb
    have x0 := X3.out.cell 0
    have x1 := X3.out.cell 1
    have x2 := X3.out.cell 2
    simp only [List.getElem?_toArray, List.getElem?_cons_zero, List.getElem?_cons_succ] at x0 x1 x2
    cases hm : mayB h
    · go_wp2_with fail
      refine (fixed9_any _).mono ?_
      rintro e w4 ⟨rfl, hb⟩
      have HB4 := hid (HB3.out.trans (hb.mono HB3.out.size))
      have X4 := hid (X3.out.later hb)
      have O4 := hid (O3.out.below hb)
      clear x0 x1 x2
      clear hb
      have x0 := X4.out.cell 0
      have x1 := X4.out.cell 1
      have x2 := X4.out.cell 2
      simp only [List.getElem?_toArray, List.getElem?_cons_zero, List.getElem?_cons_succ] at x0 x1 x2
      go_wp2_with fail
      go_ret
      exact ⟨rfl, HB4.out⟩
    · have HM := hid hm
      clear hm
      by_cases q1 : 40 < h.objs.length
      · go_wp2_with fail
        refine (fixed9_any _).mono ?_
        rintro e w4 ⟨rfl, hb⟩
        have HB4 := hid (HB3.out.trans (hb.mono HB3.out.size))
        have X4 := hid (X3.out.later hb)
        have O4 := hid (O3.out.below hb)
        clear x0 x1 x2
        clear hb
        have x0 := X4.out.cell 0
        have x1 := X4.out.cell 1
        have x2 := X4.out.cell 2
        simp only [List.getElem?_toArray, List.getElem?_cons_zero, List.getElem?_cons_succ] at x0 x1 x2
        go_wp2_with fail
        go_ret
        exact ⟨rfl, HB4.out⟩
      · obtain ⟨v, at_, en, hlk⟩ : ∃ v a e, lk9 h c s = (v, a, e) := ⟨_, _, _, rfl⟩
        have HK1 : Hid ((lk9 h c s).1 = v) := by show _ = _; rw [hlk]
        have HK2 : Hid ((lk9 h c s).2.1 = at_) := by show _ = _; rw [hlk]
        have HK3 : Hid ((lk9 h c s).2.2 = en) := by show _ = _; rw [hlk]
        have HFI : Hid (fi9 h s 64 c = (v, at_, en)) := by show _ = _; rw [← lk9_may HM.out]; exact hlk
        clear hlk
        go_wp2_with fail
        refine (lfind_any9 h c s A d _ O3.out HF.out).mono ?_
        rintro e w4 ⟨rfl, hb⟩
        rw [HK1.out, HK2.out, HK3.out]
        have HB4 := hid (HB3.out.trans (hb.mono HB3.out.size))
        have X4 := hid (X3.out.later hb)
        have O4 := hid (O3.out.below hb)
        clear x0 x1 x2
        clear hb
        have x0 := X4.out.cell 0
        have x1 := X4.out.cell 1
        have x2 := X4.out.cell 2
        simp only [List.getElem?_toArray, List.getElem?_cons_zero, List.getElem?_cons_succ] at x0 x1 x2
        by_cases h0 : en = 0
        · subst h0
          have HUN := hid (fi9_at HFI.out).2
          go_wp2_with fail
          refine (lunder_any9 h c at_ A d _ O4.out HF.out).mono ?_
          rintro e w5 ⟨rfl, hb⟩
          rw [HUN.out]
          have HB5 := hid (HB4.out.trans (hb.mono HB4.out.size))
          have X5 := hid (X4.out.later hb)
          have O5 := hid (O4.out.below hb)
          clear x0 x1 x2
          clear hb
          have x0 := X5.out.cell 0
          have x1 := X5.out.cell 1
          have x2 := X5.out.cell 2
          simp only [List.getElem?_toArray, List.getElem?_cons_zero, List.getElem?_cons_succ] at x0 x1 x2
          go_wp2_with fail
          clear x0 x1 x2
          go_loopw [10, 1] (fun i e wr => ∃ (k : Nat) (cc : Int), k ≤ 64 ∧ i = .int .i64 k ∧ e = .int .i64 cc ∧ Hid (fi9 h s (64 - k) cc = (v, at_, 0)) ∧ Below w.heap.size w wr ∧ Lies wr w.heap.size 24 #[Value.slice A h.objs.length d, Value.int .i64 h.cap, Value.int .i64 h.last]) (fun i _ _ => 64 - (intOf i).toNat)
          case atStart => exact ⟨0, c, by omega, rfl, rfl, hid HFI.out, HB5.out, X5.out⟩
          case round =>
            rename World => wo
            obtain ⟨k, cc, hk, rfl, rfl, HE, hbw, hx⟩ := hrel
            have HW := hid hbw
            have HX := hid hx
            clear hbw hx
            obtain ⟨m, hkm, hcl, hcase⟩ := fi9_goes HE.out
            have HCASE := hid hcase
            have HCL := hid hcl
            obtain ⟨hr, hkd, hl3, -, hpd⟩ := cl9_parts hcl
            obtain ⟨hr1, hz1, hz2⟩ := pa9_is hpd
            have hkI : (k : Int) < 64 := by omega
            obtain ⟨i, b, off, S, dd, hi, hil, rfl, hc, hint, -⟩ := ob_read9 HSO.out (Below.refl _ _) hr
            obtain ⟨i1, b1, off1, S1, d1, hi1, hil1, e1, hc1, hint1, -⟩ := ob_read9 HSO.out (Below.refl _ _) hr1
            cases e1
            obtain ⟨bs, os, rfl, hbs, hcs⟩ := hint (by omega)
            have z0 := hcs 0 _ (sl_at9 (by omega))
            have z1 := hcs 1 _ (sl_at9 (by omega))
            rw [Nat.add_zero] at z0
            have hl64 := slots64_9 HM.out hr1
            obtain ⟨v0, hv0⟩ : ∃ v, v = sl9 h cc 0 := ⟨_, rfl⟩
            obtain ⟨v1, hv1⟩ : ∃ v, v = sl9 h cc 1 := ⟨_, rfl⟩
            rw [← hv0] at z0 HCASE
            rw [← hv1] at z1 HCASE hi1 hc1 hint1 hz1 hz2 hl64
            obtain ⟨o, ho⟩ : ∃ o, o = obAt h cc := ⟨_, rfl⟩
            rw [← ho] at hc hl3
            obtain ⟨nn, hnn⟩ : ∃ n, n = o.slots.length := ⟨_, rfl⟩
            have k0 : 0 < nn := by omega
            have k1 : 1 < nn := by omega
            have g0 : (0 : Int) < (nn : Int) := by omega
            have g1 : (1 : Int) < (nn : Int) := by omega
            have C0 := hid hc.c0
            have C1 := hid hc.c1
            have C2 : Hid (w.cell? ⟨b, off + i * 6 + 2, none⟩ = some (.slice (some ⟨bs, os, none⟩) nn dd)) := by show _ = _; rw [hnn]; exact hc.c2
            have C3 := hid hc.c3
            have C4 := hid hc.c4
            have C5 := hid hc.c5
            obtain ⟨L, hL⟩ : ∃ L, L = (obAt h v1).slots := ⟨_, rfl⟩
            have D2 : Hid (w.cell? ⟨b, off + i1 * 6 + 2, none⟩ = some (.slice S1 L.length d1)) := by show _ = _; rw [hL]; exact hc1.c2
            have Z0 := hid z0
            have Z1 := hid z1
            rw [← hL] at hint1 hz2 hl64
            have HI1 := hid hint1
            have HZ1 := hid hz1
            have HZ2 := hid hz2
            have HL64 := hid hl64
            have HKM := hid hkm
            have hlI : (i : Int) < (h.objs.length : Int) := by omega
            have hlI1 : (i1 : Int) < (h.objs.length : Int) := by omega
            clear hcase hcl hr hkd hl3 hpd hr1 hz1 hz2 hc hc1 hint hint1 hcs z0 z1 hv0 hv1 ho hnn hL hkm hl64
            have x0 := HX.out.cell 0
            have x1 := HX.out.cell 1
            have x2 := HX.out.cell 2
            simp only [List.getElem?_toArray, List.getElem?_cons_zero, List.getElem?_cons_succ] at x0 x1 x2
            go_wp2_with fail
            refine (rclass_any9 h cc (some ⟨b, off, none⟩) d _ (HSO.out.below HW.out) HF.out).mono ?_
            rintro e w1_ ⟨rfl, hb⟩
            rw [HCL.out]
            have HW1 := hid (HW.out.trans (hb.mono HW.out.size))
            have HX1 := hid (HX.out.later hb)
            clear hb x0 x1 x2
            have x0 := HX1.out.cell 0
            have x1 := HX1.out.cell 1
            have x2 := HX1.out.cell 2
            simp only [List.getElem?_toArray, List.getElem?_cons_zero, List.getElem?_cons_succ] at x0 x1 x2
            have a0 := cell_later HW1.out C0.out
            have a1 := cell_later HW1.out C1.out
            have a2 := cell_later HW1.out C2.out
            have a3 := cell_later HW1.out C3.out
            have a4 := cell_later HW1.out C4.out
            have a5 := cell_later HW1.out C5.out
            have hnb : b ≠ w1_.heap.size := Nat.ne_of_lt (World.block_lt_of_cell? _ _ a0)
            have hnx : w.heap.size ≠ w1_.heap.size := Nat.ne_of_lt HX1.out.lt
            go_upto_region 13 with fail
            go_cut [11] from 70 to 76 (fun p wx => ∃ g : Nat, p = .pointer (some ⟨g, 0, none⟩) ∧ Lies wx g 46 #[.int .i64 o.cls, .int .i64 o.kind, .slice (some ⟨bs, os, none⟩) nn dd, .string o.text, .int .i64 o.bits, .int .i64 o.hash] ∧ Below w1_.heap.size w1_ wx)
            case first =>
              refine wp_region_held_drew (S := (fun w' => w'.cell? ⟨w.heap.size, 0, none⟩ = some (.slice (some ⟨b, off, none⟩) h.objs.length d) ∧ w'.cell? ⟨w.heap.size, 1, none⟩ = some (.int .i64 h.cap) ∧ w'.cell? ⟨w.heap.size, 2, none⟩ = some (.int .i64 h.last) ∧ w'.cell? ⟨b, off + i * 6, none⟩ = some (.int .i64 o.cls) ∧ w'.cell? ⟨b, off + i * 6 + 1, none⟩ = some (.int .i64 o.kind) ∧ w'.cell? ⟨b, off + i * 6 + 2, none⟩ = some (.slice (some ⟨bs, os, none⟩) nn dd) ∧ w'.cell? ⟨b, off + i * 6 + 3, none⟩ = some (.string o.text) ∧ w'.cell? ⟨b, off + i * 6 + 4, none⟩ = some (.int .i64 o.bits) ∧ w'.cell? ⟨b, off + i * 6 + 5, none⟩ = some (.int .i64 o.hash))) (by kernel_rfl) ?_ (fun hH0 => ?_)
              · exact ⟨x0, x1, x2, a0, a1, a2, a3, a4, a5⟩
              refine wpAnyH_take (i := 0) (oi := { dst := some 70, op := Go.Op.fieldAddr 24 (Go.Operand.tmp 3) 0, type := 0, pos := "law.go:57", after := #[], guard := none }) (v := ?vv111) rfl (by kernel_rfl) (by kernel_rfl) (by kernel_rfl) (fun _ _ _ h => h) (Or.inl ⟨by rfl, ?hy111⟩) (by assumption) ?rr111
              case hy111 => intro w hSw; (try dsimp only at hSw); go_simp; all_goals with_reducible rfl
              try simp only [Act.put, List.setIfInBounds_toArray, List.set_cons_zero, List.set_cons_succ]
              refine wpAnyH_take (i := 1) (oi := { dst := some 71, op := Go.Op.load 22 (Go.Operand.tmp 70), type := 22, pos := "law.go:57", after := #[{ on := 0, ground := Go.Ground.data }], guard := none }) (v := ?vv112) rfl (by kernel_rfl) (by kernel_rfl) (by kernel_rfl) (fun _ _ _ h => h) (Or.inl ⟨by rfl, ?hy112⟩) (by assumption) ?rr112
              case hy112 => intro w hSw; (try dsimp only at hSw); go_simp; all_goals with_reducible rfl
              try simp only [Act.put, List.setIfInBounds_toArray, List.set_cons_zero, List.set_cons_succ]
              refine wpAnyH_take (i := 2) (oi := { dst := some 72, op := Go.Op.load 24 (Go.Operand.tmp 3), type := 24, pos := "law.go:57", after := #[], guard := none }) (v := ?vv113) rfl (by kernel_rfl) (by kernel_rfl) (by kernel_rfl) (fun _ _ _ h => h) (Or.inl ⟨by rfl, ?hy113⟩) (by assumption) ?rr113
              case hy113 => intro w hSw; (try dsimp only at hSw); go_simp; all_goals with_reducible rfl
              try simp only [Act.put, List.setIfInBounds_toArray, List.set_cons_zero, List.set_cons_succ]
              refine wpAnyH_take (i := 3) (oi := { dst := some 73, op := Go.Op.move (Go.Operand.tmp 1), type := 3, pos := "law.go:57", after := #[], guard := none }) (v := ?vv114) rfl (by kernel_rfl) (by kernel_rfl) (by kernel_rfl) (fun _ _ _ h => h) (Or.inl ⟨by rfl, ?hy114⟩) (by assumption) ?rr114
              case hy114 => intro w hSw; (try dsimp only at hSw); go_simp; all_goals with_reducible rfl
              try simp only [Act.put, List.setIfInBounds_toArray, List.set_cons_zero, List.set_cons_succ]
              refine wpAnyH_ready (rs := [4, 7]) (by kernel_rfl) (by simp) ?_
              refine AllReadyH.cons (i := 4) (o := { dst := some 74, op := Go.Op.call { callee := Go.Callee.value (Go.Operand.func 32), args := #[Go.Operand.tmp 72, Go.Operand.tmp 73], argTypes := #[24, 3] }, type := 3, pos := "law.go:57", after := #[{ on := 2, ground := Go.Ground.data }, { on := 3, ground := Go.Ground.data }], guard := none }) rfl (fun K hK => ?_) (AllReadyH.cons (i := 7) (o := { dst := some 11, op := Go.Op.alloc 46, type := 0, pos := "law.go:57", after := #[], guard := none }) rfl (fun K hK => ?_) AllReadyH.nil)
              · go_simp
                go_at_call 32
                refine (rref_any h cc (some ⟨b, off, none⟩) d _).mono ?_
                rintro e w' ⟨rfl, hb⟩
                rw [hi]
                have hB0_ : Below w1_.heap.size w1_ w' := then_w (Below.refl _ _).drew hb
                refine hK.out _ _ ?_ (fun hH1 => ?_)
                · exact ⟨cell_later hb hH0.1, cell_later hb hH0.2.1, cell_later hb hH0.2.2.1, cell_later hb hH0.2.2.2.1, cell_later hb hH0.2.2.2.2.1, cell_later hb hH0.2.2.2.2.2.1, cell_later hb hH0.2.2.2.2.2.2.1, cell_later hb hH0.2.2.2.2.2.2.2.1, cell_later hb hH0.2.2.2.2.2.2.2.2⟩
                clear hK K
                try simp only [Act.put, List.setIfInBounds_toArray, List.set_cons_zero, List.set_cons_succ]
                clear hb
                refine wpAnyH_take (i := 5) (oi := { dst := some 75, op := Go.Op.indexAddr 22 (Go.Operand.tmp 71) (Go.Operand.tmp 74), type := 0, pos := "law.go:57", after := #[{ on := 1, ground := Go.Ground.data }, { on := 4, ground := Go.Ground.data }], guard := none }) (v := ?vv115) rfl (by kernel_rfl) (by kernel_rfl) (by kernel_rfl) (fun _ _ _ h => h) (Or.inl ⟨by rfl, ?hy115⟩) (by assumption) ?rr115
                case hy115 => intro w hSw; (try dsimp only at hSw); go_simp; all_goals with_reducible rfl
                try simp only [Act.put, List.setIfInBounds_toArray, List.set_cons_zero, List.set_cons_succ]
                refine wpAnyH_take (i := 6) (oi := { dst := some 76, op := Go.Op.load 46 (Go.Operand.tmp 75), type := 46, pos := "law.go:57", after := #[{ on := 5, ground := Go.Ground.data }], guard := none }) (v := ?vv116) rfl (by kernel_rfl) (by kernel_rfl) (by kernel_rfl) (fun _ _ _ h => h) (Or.inl ⟨by rfl, ?hy116⟩) (by assumption) ?rr116
                case hy116 => intro w hSw; (try dsimp only at hSw); go_simp; all_goals with_reducible rfl
                try simp only [Act.put, List.setIfInBounds_toArray, List.set_cons_zero, List.set_cons_succ]
                refine wpAnyH_ready (rs := [7]) (by kernel_rfl) (by simp) ?_
                refine AllReadyH.cons (i := 7) (o := { dst := some 11, op := Go.Op.alloc 46, type := 0, pos := "law.go:57", after := #[], guard := none }) rfl (fun K hK => ?_) AllReadyH.nil
                go_simp
                refine hK.out _ _ ?_ (fun hH2 => ?_)
                · exact ⟨cell_old hH1.1, cell_old hH1.2.1, cell_old hH1.2.2.1, cell_old hH1.2.2.2.1, cell_old hH1.2.2.2.2.1, cell_old hH1.2.2.2.2.2.1, cell_old hH1.2.2.2.2.2.2.1, cell_old hH1.2.2.2.2.2.2.2.1, cell_old hH1.2.2.2.2.2.2.2.2⟩
                clear hK K
                try simp only [Act.put, List.setIfInBounds_toArray, List.set_cons_zero, List.set_cons_succ]
                refine wpAnyH_ready (rs := [8]) (by kernel_rfl) (by simp) ?_
                refine AllReadyH.cons (i := 8) (o := { dst := none, op := Go.Op.store 46 (Go.Operand.tmp 11) (Go.Operand.tmp 76), type := 0, pos := "law.go:57", after := #[{ on := 7, ground := Go.Ground.data }, { on := 6, ground := Go.Ground.data }, { on := 4, ground := Go.Ground.chain }, { on := 0, ground := Go.Ground.phase }, { on := 1, ground := Go.Ground.phase }, { on := 2, ground := Go.Ground.phase }, { on := 3, ground := Go.Ground.phase }, { on := 4, ground := Go.Ground.phase }, { on := 5, ground := Go.Ground.phase }, { on := 6, ground := Go.Ground.phase }, { on := 7, ground := Go.Ground.phase }], guard := none }) rfl (fun K hK => ?_) AllReadyH.nil
                go_simp
                refine hK.out _ _ ?_ (fun hH3 => ?_)
                · exact ⟨cell_old hH1.1, cell_old hH1.2.1, cell_old hH1.2.2.1, cell_old hH1.2.2.2.1, cell_old hH1.2.2.2.2.1, cell_old hH1.2.2.2.2.2.1, cell_old hH1.2.2.2.2.2.2.1, cell_old hH1.2.2.2.2.2.2.2.1, cell_old hH1.2.2.2.2.2.2.2.2⟩
                clear hK K
                try simp only [Act.put, List.setIfInBounds_toArray, List.set_cons_zero, List.set_cons_succ]
                refine wpAnyH_done (by kernel_rfl) ?_ _
                obtain ⟨nbV13, hN⟩ : ∃ n, n = w'.heap.size := ⟨_, rfl⟩
                rw [← hN]
                obtain ⟨V13, hV⟩ : ∃ V, V = w'.alloc (.cells #[.int .i64 o.cls, .int .i64 o.kind, .slice (some ⟨bs, os, none⟩) nn dd, .string o.text, .int .i64 o.bits, .int .i64 o.hash] 46) := ⟨_, rfl⟩
                have hLV : Lies V13 nbV13 46 #[.int .i64 o.cls, .int .i64 o.kind, .slice (some ⟨bs, os, none⟩) nn dd, .string o.text, .int .i64 o.bits, .int .i64 o.hash] := by rw [hV, hN]; exact Lies.new _ _ _
                have hBV : Below w1_.heap.size w1_ V13 := by rw [hV]; exact then_w hB0_ (below_alloc _ _)
                rw [← hV]
                clear hV hN
                have L13 := hid hLV
                clear hLV hB0_
                go_wp2_with fail
                go_meet
                exact ⟨nbV13, rfl, L13.out, hBV⟩
              · go_simp
                refine hK.out _ _ ?_ (fun hH1 => ?_)
                · exact ⟨cell_old hH0.1, cell_old hH0.2.1, cell_old hH0.2.2.1, cell_old hH0.2.2.2.1, cell_old hH0.2.2.2.2.1, cell_old hH0.2.2.2.2.2.1, cell_old hH0.2.2.2.2.2.2.1, cell_old hH0.2.2.2.2.2.2.2.1, cell_old hH0.2.2.2.2.2.2.2.2⟩
                clear hK K
                try simp only [Act.put, List.setIfInBounds_toArray, List.set_cons_zero, List.set_cons_succ]
                refine wpAnyH_ready (rs := [4]) (by kernel_rfl) (by simp) ?_
                refine AllReadyH.cons (i := 4) (o := { dst := some 74, op := Go.Op.call { callee := Go.Callee.value (Go.Operand.func 32), args := #[Go.Operand.tmp 72, Go.Operand.tmp 73], argTypes := #[24, 3] }, type := 3, pos := "law.go:57", after := #[{ on := 2, ground := Go.Ground.data }, { on := 3, ground := Go.Ground.data }], guard := none }) rfl (fun K hK => ?_) AllReadyH.nil
                go_simp
                go_at_call 32
                refine (rref_any h cc (some ⟨b, off, none⟩) d _).mono ?_
                rintro e w' ⟨rfl, hb⟩
                rw [hi]
                have hL0 := ((Lies.new w1_ 46 #[.int .i64 0, .int .i64 0, .slice none 0 0, .string ⟨#[]⟩, .int .i64 0, .int .i64 0]).drew).later hb
                have hB0_ : Below w1_.heap.size w1_ w' := then_w (below_alloc w1_ (.cells #[.int .i64 0, .int .i64 0, .slice none 0 0, .string ⟨#[]⟩, .int .i64 0, .int .i64 0] 46)).drew hb
                have k0 := hL0.cell 0
                have kf0 := hL0.frozen 0
                have k1 := hL0.cell 1
                have kf1 := hL0.frozen 1
                have k2 := hL0.cell 2
                have kf2 := hL0.frozen 2
                have k3 := hL0.cell 3
                have kf3 := hL0.frozen 3
                have k4 := hL0.cell 4
                have kf4 := hL0.frozen 4
                have k5 := hL0.cell 5
                have kf5 := hL0.frozen 5
                simp only [List.getElem?_toArray, List.getElem?_cons_zero, List.getElem?_cons_succ] at k0 k1 k2 k3 k4 k5
                refine hK.out _ _ ?_ (fun hH2 => ?_)
                · exact ⟨cell_later hb hH1.1, cell_later hb hH1.2.1, cell_later hb hH1.2.2.1, cell_later hb hH1.2.2.2.1, cell_later hb hH1.2.2.2.2.1, cell_later hb hH1.2.2.2.2.2.1, cell_later hb hH1.2.2.2.2.2.2.1, cell_later hb hH1.2.2.2.2.2.2.2.1, cell_later hb hH1.2.2.2.2.2.2.2.2⟩
                clear hK K
                try simp only [Act.put, List.setIfInBounds_toArray, List.set_cons_zero, List.set_cons_succ]
                clear hb
                refine wpAnyH_take (i := 5) (oi := { dst := some 75, op := Go.Op.indexAddr 22 (Go.Operand.tmp 71) (Go.Operand.tmp 74), type := 0, pos := "law.go:57", after := #[{ on := 1, ground := Go.Ground.data }, { on := 4, ground := Go.Ground.data }], guard := none }) (v := ?vv117) rfl (by kernel_rfl) (by kernel_rfl) (by kernel_rfl) (fun _ _ _ h => h) (Or.inl ⟨by rfl, ?hy117⟩) (by assumption) ?rr117
                case hy117 => intro w hSw; (try dsimp only at hSw); go_simp; all_goals with_reducible rfl
                try simp only [Act.put, List.setIfInBounds_toArray, List.set_cons_zero, List.set_cons_succ]
                refine wpAnyH_take (i := 6) (oi := { dst := some 76, op := Go.Op.load 46 (Go.Operand.tmp 75), type := 46, pos := "law.go:57", after := #[{ on := 5, ground := Go.Ground.data }], guard := none }) (v := ?vv118) rfl (by kernel_rfl) (by kernel_rfl) (by kernel_rfl) (fun _ _ _ h => h) (Or.inl ⟨by rfl, ?hy118⟩) (by assumption) ?rr118
                case hy118 => intro w hSw; (try dsimp only at hSw); go_simp; all_goals with_reducible rfl
                try simp only [Act.put, List.setIfInBounds_toArray, List.set_cons_zero, List.set_cons_succ]
                refine wpAnyH_ready (rs := [8]) (by kernel_rfl) (by simp) ?_
                refine AllReadyH.cons (i := 8) (o := { dst := none, op := Go.Op.store 46 (Go.Operand.tmp 11) (Go.Operand.tmp 76), type := 0, pos := "law.go:57", after := #[{ on := 7, ground := Go.Ground.data }, { on := 6, ground := Go.Ground.data }, { on := 4, ground := Go.Ground.chain }, { on := 0, ground := Go.Ground.phase }, { on := 1, ground := Go.Ground.phase }, { on := 2, ground := Go.Ground.phase }, { on := 3, ground := Go.Ground.phase }, { on := 4, ground := Go.Ground.phase }, { on := 5, ground := Go.Ground.phase }, { on := 6, ground := Go.Ground.phase }, { on := 7, ground := Go.Ground.phase }], guard := none }) rfl (fun K hK => ?_) AllReadyH.nil
                go_simp
                refine hK.out _ _ ?_ (fun hH3 => ?_)
                · exact ⟨far69 hnx hH2.1, far69 hnx hH2.2.1, far69 hnx hH2.2.2.1, far69 hnb hH2.2.2.2.1, far69 hnb hH2.2.2.2.2.1, far69 hnb hH2.2.2.2.2.2.1, far69 hnb hH2.2.2.2.2.2.2.1, far69 hnb hH2.2.2.2.2.2.2.2.1, far69 hnb hH2.2.2.2.2.2.2.2.2⟩
                clear hK K
                try simp only [Act.put, List.setIfInBounds_toArray, List.set_cons_zero, List.set_cons_succ]
                refine wpAnyH_done (by kernel_rfl) ?_ _
                obtain ⟨V13, hV⟩ : ∃ V, V = ((((((w'.setCell ⟨w1_.heap.size, 0, none⟩ (.int .i64 o.cls)).setCell ⟨w1_.heap.size, 1, none⟩ (.int .i64 o.kind)).setCell ⟨w1_.heap.size, 2, none⟩ (.slice (some ⟨bs, os, none⟩) nn dd)).setCell ⟨w1_.heap.size, 3, none⟩ (.string o.text)).setCell ⟨w1_.heap.size, 4, none⟩ (.int .i64 o.bits)).setCell ⟨w1_.heap.size, 5, none⟩ (.int .i64 o.hash)) := ⟨_, rfl⟩
                have hLV : Lies V13 w1_.heap.size 46 #[.int .i64 o.cls, .int .i64 o.kind, .slice (some ⟨bs, os, none⟩) nn dd, .string o.text, .int .i64 o.bits, .int .i64 o.hash] := by
                  rw [hV]
                  have := ((((((hL0.set_ 0 (.int .i64 o.cls)).set_ 1 (.int .i64 o.kind)).set_ 2 (.slice (some ⟨bs, os, none⟩) nn dd)).set_ 3 (.string o.text)).set_ 4 (.int .i64 o.bits)).set_ 5 (.int .i64 o.hash))
                  simpa using this
                have hBV : Below w1_.heap.size w1_ V13 := by rw [hV]; exact ((((((hB0_.setCell (p := ⟨w1_.heap.size, 0, none⟩) (Nat.le_refl _) (.int .i64 o.cls)).setCell (p := ⟨w1_.heap.size, 1, none⟩) (Nat.le_refl _) (.int .i64 o.kind)).setCell (p := ⟨w1_.heap.size, 2, none⟩) (Nat.le_refl _) (.slice (some ⟨bs, os, none⟩) nn dd)).setCell (p := ⟨w1_.heap.size, 3, none⟩) (Nat.le_refl _) (.string o.text)).setCell (p := ⟨w1_.heap.size, 4, none⟩) (Nat.le_refl _) (.int .i64 o.bits)).setCell (p := ⟨w1_.heap.size, 5, none⟩) (Nat.le_refl _) (.int .i64 o.hash))
                rw [← hV]
                clear hV hL0 k0 k1 k2 k3 k4 k5 kf0 kf1 kf2 kf3 kf4 kf5
                have L13 := hid hLV
                clear hLV hB0_
                go_wp2_with fail
                go_meet
                exact ⟨w1_.heap.size, rfl, L13.out, hBV⟩
            case rest =>
              rename World => w2_
              obtain ⟨g, rfl, hL, hb⟩ := hcut
              have HG := hid hL
              have HW2 := hid (HW1.out.trans (hb.mono HW1.out.size))
              have HX2 := hid (HX1.out.later hb)
              clear hb hL x0 x1 x2 a0 a1 a2 a3 a4 a5 hnb hnx
              have x0 := HX2.out.cell 0
              have x1 := HX2.out.cell 1
              have x2 := HX2.out.cell 2
              have y2 := HG.out.cell 2
              simp only [List.getElem?_toArray, List.getElem?_cons_zero, List.getElem?_cons_succ] at x0 x1 x2 y2
              have s1 := cell_later HW2.out Z1.out
              have t2 := cell_later HW2.out D2.out
              go_upto_region 14 with fail
              refine wp_region_held_drew (S := (fun w' => w'.cell? ⟨w.heap.size, 0, none⟩ = some (.slice (some ⟨b, off, none⟩) h.objs.length d) ∧ w'.cell? ⟨w.heap.size, 1, none⟩ = some (.int .i64 h.cap) ∧ w'.cell? ⟨w.heap.size, 2, none⟩ = some (.int .i64 h.last) ∧ w'.cell? ⟨g, 2, none⟩ = some (.slice (some ⟨bs, os, none⟩) nn dd) ∧ w'.cell? ⟨bs, os + 1, none⟩ = some (.int .i64 v1) ∧ w'.cell? ⟨b, off + i1 * 6 + 2, none⟩ = some (.slice S1 L.length d1))) (by kernel_rfl) ?_ (fun hH0 => ?_)
              · exact ⟨x0, x1, x2, y2, s1, t2⟩
              refine wpAnyH_take (i := 0) (oi := { dst := some 77, op := Go.Op.fieldAddr 24 (Go.Operand.tmp 3) 0, type := 0, pos := "law.go:58", after := #[], guard := none }) (v := ?vv119) rfl (by kernel_rfl) (by kernel_rfl) (by kernel_rfl) (fun _ _ _ h => h) (Or.inl ⟨by rfl, ?hy119⟩) (by assumption) ?rr119
              case hy119 => intro w hSw; (try dsimp only at hSw); go_simp; all_goals with_reducible rfl
              try simp only [Act.put, List.setIfInBounds_toArray, List.set_cons_zero, List.set_cons_succ]
              refine wpAnyH_take (i := 1) (oi := { dst := some 78, op := Go.Op.load 22 (Go.Operand.tmp 77), type := 22, pos := "law.go:58", after := #[{ on := 0, ground := Go.Ground.data }], guard := none }) (v := ?vv120) rfl (by kernel_rfl) (by kernel_rfl) (by kernel_rfl) (fun _ _ _ h => h) (Or.inl ⟨by rfl, ?hy120⟩) (by assumption) ?rr120
              case hy120 => intro w hSw; (try dsimp only at hSw); go_simp; all_goals with_reducible rfl
              try simp only [Act.put, List.setIfInBounds_toArray, List.set_cons_zero, List.set_cons_succ]
              refine wpAnyH_take (i := 2) (oi := { dst := some 79, op := Go.Op.load 24 (Go.Operand.tmp 3), type := 24, pos := "law.go:58", after := #[], guard := none }) (v := ?vv121) rfl (by kernel_rfl) (by kernel_rfl) (by kernel_rfl) (fun _ _ _ h => h) (Or.inl ⟨by rfl, ?hy121⟩) (by assumption) ?rr121
              case hy121 => intro w hSw; (try dsimp only at hSw); go_simp; all_goals with_reducible rfl
              try simp only [Act.put, List.setIfInBounds_toArray, List.set_cons_zero, List.set_cons_succ]
              refine wpAnyH_take (i := 3) (oi := { dst := some 80, op := Go.Op.fieldAddr 46 (Go.Operand.tmp 11) 2, type := 0, pos := "law.go:58", after := #[], guard := none }) (v := ?vv122) rfl (by kernel_rfl) (by kernel_rfl) (by kernel_rfl) (fun _ _ _ h => h) (Or.inl ⟨by rfl, ?hy122⟩) (by assumption) ?rr122
              case hy122 => intro w hSw; (try dsimp only at hSw); go_simp; all_goals with_reducible rfl
              try simp only [Act.put, List.setIfInBounds_toArray, List.set_cons_zero, List.set_cons_succ]
              refine wpAnyH_take (i := 4) (oi := { dst := some 81, op := Go.Op.load 44 (Go.Operand.tmp 80), type := 44, pos := "law.go:58", after := #[{ on := 3, ground := Go.Ground.data }], guard := none }) (v := ?vv123) rfl (by kernel_rfl) (by kernel_rfl) (by kernel_rfl) (fun _ _ _ h => h) (Or.inl ⟨by rfl, ?hy123⟩) (by assumption) ?rr123
              case hy123 => intro w hSw; (try dsimp only at hSw); go_simp; all_goals with_reducible rfl
              try simp only [Act.put, List.setIfInBounds_toArray, List.set_cons_zero, List.set_cons_succ]
              refine wpAnyH_take (i := 5) (oi := { dst := some 82, op := Go.Op.indexAddr 44 (Go.Operand.tmp 81) (Go.Operand.const (Go.Value.int Go.IntKind.i64 1)), type := 0, pos := "law.go:58", after := #[{ on := 4, ground := Go.Ground.data }], guard := none }) (v := ?vv124) rfl (by kernel_rfl) (by kernel_rfl) (by kernel_rfl) (fun _ _ _ h => h) (Or.inl ⟨by rfl, ?hy124⟩) (by assumption) ?rr124
              case hy124 => intro w hSw; (try dsimp only at hSw); go_simp; all_goals with_reducible rfl
              try simp only [Act.put, List.setIfInBounds_toArray, List.set_cons_zero, List.set_cons_succ]
              refine wpAnyH_take (i := 6) (oi := { dst := some 83, op := Go.Op.load 3 (Go.Operand.tmp 82), type := 3, pos := "law.go:58", after := #[{ on := 5, ground := Go.Ground.data }], guard := none }) (v := ?vv125) rfl (by kernel_rfl) (by kernel_rfl) (by kernel_rfl) (fun _ _ _ h => h) (Or.inl ⟨by rfl, ?hy125⟩) (by assumption) ?rr125
              case hy125 => intro w hSw; (try dsimp only at hSw); go_simp; all_goals with_reducible rfl
              try simp only [Act.put, List.setIfInBounds_toArray, List.set_cons_zero, List.set_cons_succ]
              refine wpAnyH_ready (rs := [7]) (by kernel_rfl) (by simp) ?_
              refine AllReadyH.cons (i := 7) (o := { dst := some 84, op := Go.Op.call { callee := Go.Callee.value (Go.Operand.func 32), args := #[Go.Operand.tmp 79, Go.Operand.tmp 83], argTypes := #[24, 3] }, type := 3, pos := "law.go:58", after := #[{ on := 2, ground := Go.Ground.data }, { on := 6, ground := Go.Ground.data }], guard := none }) rfl (fun K hK => ?_) AllReadyH.nil
              go_simp
              go_at_call 32
              refine (rref_any h v1 (some ⟨b, off, none⟩) d _).mono ?_
              rintro e u1 ⟨rfl, hb⟩
              rw [hi1]
              have HV1 := hid (then_w (Below.refl w2_.heap.size w2_).drew hb)
              refine hK.out _ _ ?_ (fun hH1 => ?_)
              · exact ⟨cell_later hb hH0.1, cell_later hb hH0.2.1, cell_later hb hH0.2.2.1, cell_later hb hH0.2.2.2.1, cell_later hb hH0.2.2.2.2.1, cell_later hb hH0.2.2.2.2.2⟩
              clear hK K
              try simp only [Act.put, List.setIfInBounds_toArray, List.set_cons_zero, List.set_cons_succ]
              clear hb
              refine wpAnyH_take (i := 8) (oi := { dst := some 85, op := Go.Op.indexAddr 22 (Go.Operand.tmp 78) (Go.Operand.tmp 84), type := 0, pos := "law.go:58", after := #[{ on := 1, ground := Go.Ground.data }, { on := 7, ground := Go.Ground.data }], guard := none }) (v := ?vv126) rfl (by kernel_rfl) (by kernel_rfl) (by kernel_rfl) (fun _ _ _ h => h) (Or.inl ⟨by rfl, ?hy126⟩) (by assumption) ?rr126
              case hy126 => intro w hSw; (try dsimp only at hSw); go_simp; all_goals with_reducible rfl
              try simp only [Act.put, List.setIfInBounds_toArray, List.set_cons_zero, List.set_cons_succ]
              refine wpAnyH_take (i := 9) (oi := { dst := some 86, op := Go.Op.fieldAddr 46 (Go.Operand.tmp 85) 2, type := 0, pos := "law.go:58", after := #[{ on := 8, ground := Go.Ground.data }], guard := none }) (v := ?vv127) rfl (by kernel_rfl) (by kernel_rfl) (by kernel_rfl) (fun _ _ _ h => h) (Or.inl ⟨by rfl, ?hy127⟩) (by assumption) ?rr127
              case hy127 => intro w hSw; (try dsimp only at hSw); go_simp; all_goals with_reducible rfl
              try simp only [Act.put, List.setIfInBounds_toArray, List.set_cons_zero, List.set_cons_succ]
              refine wpAnyH_take (i := 10) (oi := { dst := some 87, op := Go.Op.load 44 (Go.Operand.tmp 86), type := 44, pos := "law.go:58", after := #[{ on := 9, ground := Go.Ground.data }], guard := none }) (v := ?vv128) rfl (by kernel_rfl) (by kernel_rfl) (by kernel_rfl) (fun _ _ _ h => h) (Or.inl ⟨by rfl, ?hy128⟩) (by assumption) ?rr128
              case hy128 => intro w hSw; (try dsimp only at hSw); go_simp; all_goals with_reducible rfl
              try simp only [Act.put, List.setIfInBounds_toArray, List.set_cons_zero, List.set_cons_succ]
              refine wpAnyH_take (i := 11) (oi := { dst := some 12, op := Go.Op.assign (Go.Operand.tmp 87), type := 44, pos := "law.go:58", after := #[{ on := 10, ground := Go.Ground.data }, { on := 7, ground := Go.Ground.chain }, { on := 0, ground := Go.Ground.phase }, { on := 1, ground := Go.Ground.phase }, { on := 2, ground := Go.Ground.phase }, { on := 3, ground := Go.Ground.phase }, { on := 4, ground := Go.Ground.phase }, { on := 5, ground := Go.Ground.phase }, { on := 6, ground := Go.Ground.phase }, { on := 7, ground := Go.Ground.phase }, { on := 8, ground := Go.Ground.phase }, { on := 9, ground := Go.Ground.phase }, { on := 10, ground := Go.Ground.phase }], guard := none }) (v := ?vv129) rfl (by kernel_rfl) (by kernel_rfl) (by kernel_rfl) (fun _ _ _ h => h) (Or.inl ⟨by rfl, ?hy129⟩) (by assumption) ?rr129
              case hy129 => intro w hSw; (try dsimp only at hSw); go_simp; all_goals with_reducible rfl
              try simp only [Act.put, List.setIfInBounds_toArray, List.set_cons_zero, List.set_cons_succ]
              refine wpAnyH_done (by kernel_rfl) ?_ _
              obtain ⟨w3_, hw⟩ : ∃ u, u = u1 := ⟨_, rfl⟩
              have hb := HV1.out
              rw [← hw] at hb ⊢
              have HW3 := hid (HW2.out.trans (hb.mono HW2.out.size))
              have HX3 := hid (HX2.out.later hb)
              have HG3 := hid (HG.out.later hb)
              clear hb hw HV1 hH0 hH1 x0 x1 x2 y2 s1 t2
              have y2 := HG3.out.cell 2
              simp only [List.getElem?_toArray, List.getElem?_cons_zero, List.getElem?_cons_succ] at y2
              have s1 := cell_later HW3.out Z1.out
              by_cases hz : v1 = 0
              · have HPN : Hid (pf9 (paL9 h v1) s = none) := by show _ = _; rw [HZ1.out hz]; rfl
                subst hz
                go_wp2_with fail
                clear y2 s1
                go_loopw [13] (fun i wr => i = .int .i64 0 ∧ wr = w3_) (fun _ _ => 0)
                case atStart => exact ⟨rfl, rfl⟩
                case round =>
                  obtain ⟨rfl, rfl⟩ := hrel
                  obtain ⟨hne, hnx⟩ : cc ≠ at_ ∧ fi9 h s m v0 = (v, at_, 0) := by
                    rcases HCASE.out with ⟨q, _⟩ | ⟨_, q1, q2⟩
                    · rw [HPN.out] at q; cases q
                    · exact ⟨q1, q2⟩
                  have hneB : (cc == at_) = false := beq_eq_false_iff_ne.2 hne
                  have HNX : Hid (fi9 h s (64 - (k + 1)) v0 = (v, at_, 0)) := by
                    show _ = _
                    rw [show 64 - (k + 1) = m by have := HKM.out; omega]; exact hnx
                  clear hnx
                  have y2 := HG3.out.cell 2
                  simp only [List.getElem?_toArray, List.getElem?_cons_zero, List.getElem?_cons_succ] at y2
                  have s0 := cell_later HW3.out Z0.out
                  have hkw : IntKind.i64.wrap ((k : Int) + 1) = (k : Int) + 1 := IntWalk.i64_in _ ⟨by omega, by omega⟩
                  go_wp2_with fail
                  go_roundw
                  case rel => exact ⟨k + 1, v0, by omega, by go_num, rfl, HNX, HW3.out, HX3.out⟩
                  case measure => simp only [intOf]; omega
              · have hzB : (v1 == 0) = false := beq_eq_false_iff_ne.2 hz
                have HPL : Hid (paL9 h v1 = L) := HZ2.out hz
                go_wp2_with fail
                clear y2 s1
                go_loopw [13] (fun i wr => ∃ j : Nat, j ≤ L.length + 2 ∧ i = .int .i64 j ∧ Hid (pf9 (L.drop j) s = pf9 L s) ∧ wr = w3_) (fun i _ => L.length + 3 - (intOf i).toNat)
                case atStart => exact ⟨0, by omega, rfl, hid rfl, rfl⟩
                case round =>
                  obtain ⟨j, hjl, rfl, HP, rfl⟩ := hrel
                  have hj70 := HL64.out
                  have hjw : IntKind.i64.wrap ((j : Int) + 1) = (j : Int) + 1 := IntWalk.i64_in _ ⟨by omega, by omega⟩
                  have hjw2 : IntKind.i64.wrap ((j : Int) + 2) = (j : Int) + 2 := IntWalk.i64_in _ ⟨by omega, by omega⟩
                  by_cases hj : j + 1 < L.length
                  · have hjI : (j : Int) + 1 < (L.length : Int) := by omega
                    have hjI2 : (j : Int) < (L.length : Int) := by omega
                    have hjI3 : (0 : Int) ≤ (j : Int) + 1 := by omega
                    obtain ⟨bl, ol, rfl, hbl, hcl⟩ := HI1.out (by omega)
                    have l0 := cell_later HW3.out (hcl j _ (List.getElem?_eq_getElem (show j < L.length by omega)))
                    have l1 := cell_later HW3.out (hcl (j + 1) _ (List.getElem?_eq_getElem hj))
                    have HNE := hid (pf9_next hj s)
                    obtain ⟨u0, hu0⟩ : ∃ u, u = L[j]'(by omega) := ⟨_, rfl⟩
                    obtain ⟨u1, hu1⟩ : ∃ u, u = L[j + 1]'hj := ⟨_, rfl⟩
                    rw [← hu0] at l0 HNE
                    rw [← hu1] at l1 HNE
                    clear hcl hu0 hu1
                    by_cases hs : u0 = s
                    · obtain ⟨e1, e2⟩ : u1 = v ∧ cc = at_ := by
                        have q0 : pf9 (paL9 h v1) s = some u1 := by rw [HPL.out, ← HP.out, HNE.out, if_pos hs]
                        rcases HCASE.out with ⟨q, q2⟩ | ⟨q, _⟩
                        · rw [q0] at q; cases q; exact ⟨rfl, q2⟩
                        · rw [q0] at q; cases q
                      subst e1
                      subst e2
                      subst hs
                      go_wp2_with fail
                      go_ret
                      exact ⟨by first | rfl | simp, HW3.out⟩
                    · have hsB : (u0 == s) = false := beq_eq_false_iff_ne.2 hs
                      have HPX : Hid (pf9 (L.drop (j + 2)) s = pf9 L s) := by show _ = _; rw [← HP.out, HNE.out, if_neg hs]
                      go_wp2_with fail
                      go_roundw
                      case rel => exact ⟨j + 2, by omega, by go_num, HPX, trivial⟩
                      case measure => simp only [intOf]; omega
                  · have hjI : ¬ (j : Int) + 1 < (L.length : Int) := by omega
                    have HPN : Hid (pf9 (paL9 h v1) s = none) := by show _ = _; rw [HPL.out, ← HP.out]; exact pf9_end hj s
                    obtain ⟨hne, hnx⟩ : cc ≠ at_ ∧ fi9 h s m v0 = (v, at_, 0) := by
                      rcases HCASE.out with ⟨q, _⟩ | ⟨_, q1, q2⟩
                      · rw [HPN.out] at q; cases q
                      · exact ⟨q1, q2⟩
                    have hneB : (cc == at_) = false := beq_eq_false_iff_ne.2 hne
                    have HNX : Hid (fi9 h s (64 - (k + 1)) v0 = (v, at_, 0)) := by
                      show _ = _
                      rw [show 64 - (k + 1) = m by have := HKM.out; omega]; exact hnx
                    clear hnx
                    have y2 := HG3.out.cell 2
                    simp only [List.getElem?_toArray, List.getElem?_cons_zero, List.getElem?_cons_succ] at y2
                    have s0 := cell_later HW3.out Z0.out
                    have hkw : IntKind.i64.wrap ((k : Int) + 1) = (k : Int) + 1 := IntWalk.i64_in _ ⟨by omega, by omega⟩
                    go_wp2_with fail
                    go_roundw
                    case rel => exact ⟨k + 1, v0, by omega, by go_num, rfl, HNX, HW3.out, HX3.out⟩
                    case measure => simp only [intOf]; omega
        · have h0B : (en == 0) = false := beq_eq_false_iff_ne.2 h0
          rcases fi9_err h s 64 c with z | z | z
          · rw [HFI.out] at z
            exact absurd z h0
          · rw [HFI.out] at z
            cases z
            clear h0 h0B
            go_wp2_with fail
            go_ret
            exact ⟨rfl, HB4.out⟩
          · rw [HFI.out] at z
            cases z
            clear h0 h0B
            go_wp2_with fail
            go_ret
            exact ⟨rfl, HB4.out⟩
end Go.Proofs.Ytfdjghllnbiffaa
