/- MarkLess walked: whatever heap and two lists of roots, it answers true. -/
import Derived.Test.YtpeojbkbeigahaaME
import Derived.Test.YtpeojbkbeigahaaN
import Derived.Test.YtpeojbkbeigahaaR
namespace Go.Proofs.Ytpeojbkbeigahaa
open Go.RowKit
set_option maxRecDepth 100000
theorem liE_good {h : Hp} {rs : List Int} (e : liE h rs = 0) : mayB h = true ∧ (∀ v ∈ rs, hasB h.objs.length v = true) ∧ liL h rs = liveL h rs := by
  have e' := e
  unfold liE at e
  split at e
  · rename_i hm
    split at e
    · rename_i hr
      exact ⟨hm, List.all_eq_true.1 hr, by unfold liL; rw [if_pos e']⟩
    · cases e
  · cases e
theorem live_at_ {h : Hp} {rs : List Int} {k : Nat} (hk : k < (liveL h rs).length) : ∃ i : Nat, (liveL h rs)[k] = (i : Int) ∧ Reach h rs i := by
  obtain ⟨i, hi, hr⟩ := mem_liveL.1 (List.getElem_mem hk)
  exact ⟨i, hi, hr⟩
theorem draw_too {w v w' : World} (h : Below w.heap.size w v) (hb : Below v.heap.size v w') : Below w.heap.size w w' := h.trans (hb.mono h.size)
set_option maxHeartbeats 2000000 in
theorem less_any (h : Hp) (a b : List Int) (A : Option Addr) (c : Nat) (Ra : Option Addr) (ca : Nat) (Rb : Option Addr) (cb : Nat) (w : World) (hs : ObsR w A h.objs) (fit : h.Fit) (hra : IntsR w Ra a) (hna : Ra = none → ca = 0) (hla : a.length ≤ 9223372036854775807) (hrb : IntsR w Rb b) (hnb : Rb = none → cb = 0) (hlb : b.length ≤ 9223372036854775807) :
    Calls Try.prog 11 #[.agg #[.slice A h.objs.length c, .int .i64 h.cap, .int .i64 h.last], .slice Ra a.length ca, .slice Rb b.length cb] w fun e w' => e = .returned (.bool true) ∧ Below w.heap.size w w' := by
  have HB0 := hid (below_alloc w (.cells #[Value.slice A h.objs.length c, Value.int .i64 h.cap, Value.int .i64 h.last] 24))
  have X0 := hid (Lies.new w 24 #[Value.slice A h.objs.length c, Value.int .i64 h.cap, Value.int .i64 h.last])
  have O0 := hid (hs.below HB0.out)
  have P0 := hid (hra.below HB0.out)
  have Q0 := hid (hrb.below HB0.out)
  have HF := hid fit
  have hfl := fit.1
  have HNA := hid hna
  have HNB := hid hnb
  clear hs fit hra hrb hna hnb
  go_enter Try.func11, Try.ntmps11
  go_wp2_with fail
  refine (fixed4_any _).mono ?_
  rintro e w1 ⟨rfl, hb⟩
  have HB1 := hid (HB0.out.trans (hb.mono HB0.out.size))
  have X1 := hid (X0.out.later hb)
  have O1 := hid (O0.out.below hb)
  have P1 := hid (P0.out.below hb)
  have Q1 := hid (Q0.out.below hb)
  clear hb
  have x0 := X1.out.cell 0
  have x1 := X1.out.cell 1
  have x2 := X1.out.cell 2
  simp only [List.getElem?_toArray, List.getElem?_cons_zero, List.getElem?_cons_succ] at x0 x1 x2
  go_wp2_with fail
  refine (small_ok h A c _ O1.out HF.out).mono ?_
  rintro e w2 ⟨sm, rfl, hb⟩
  have HB2 := hid (HB1.out.trans (hb.mono HB1.out.size))
  have X2 := hid (X1.out.later hb)
  have O2 := hid (O1.out.below hb)
  have P2 := hid (P1.out.below hb)
  have Q2 := hid (Q1.out.below hb)
  clear x0 x1 x2
  clear hb
  have x0 := X2.out.cell 0
  have x1 := X2.out.cell 1
  have x2 := X2.out.cell 2
  simp only [List.getElem?_toArray, List.getElem?_cons_zero, List.getElem?_cons_succ] at x0 x1 x2
  cases sm
  · go_wp2_with fail
    refine (fixed4_any _).mono ?_
    rintro e w3 ⟨rfl, hb⟩
    have HB3 := hid (HB2.out.trans (hb.mono HB2.out.size))
    have X3 := hid (X2.out.later hb)
    have O3 := hid (O2.out.below hb)
    have P3 := hid (P2.out.below hb)
    have Q3 := hid (Q2.out.below hb)
    clear x0 x1 x2
    clear hb
    have x0 := X3.out.cell 0
    have x1 := X3.out.cell 1
    have x2 := X3.out.cell 2
    simp only [List.getElem?_toArray, List.getElem?_cons_zero, List.getElem?_cons_succ] at x0 x1 x2
    go_wp2_with fail
    go_ret
    exact ⟨rfl, HB3.out⟩
  · go_wp2_with fail
    refine (rmay_any h A c _ O2.out HF.out).mono ?_
    rintro e w3 ⟨rfl, hb⟩
    have HB3 := hid (HB2.out.trans (hb.mono HB2.out.size))
    have X3 := hid (X2.out.later hb)
    have O3 := hid (O2.out.below hb)
    have P3 := hid (P2.out.below hb)
    have Q3 := hid (Q2.out.below hb)
    clear x0 x1 x2
    clear hb
    have x0 := X3.out.cell 0
    have x1 := X3.out.cell 1
    have x2 := X3.out.cell 2
    simp only [List.getElem?_toArray, List.getElem?_cons_zero, List.getElem?_cons_succ] at x0 x1 x2
    cases hm : mayB h
    · go_wp2_with fail
      refine (fixed4_any _).mono ?_
      rintro e w4 ⟨rfl, hb⟩
      have HB4 := hid (HB3.out.trans (hb.mono HB3.out.size))
      have X4 := hid (X3.out.later hb)
      have O4 := hid (O3.out.below hb)
      have P4 := hid (P3.out.below hb)
      have Q4 := hid (Q3.out.below hb)
      clear x0 x1 x2
      clear hb
      have x0 := X4.out.cell 0
      have x1 := X4.out.cell 1
      have x2 := X4.out.cell 2
      simp only [List.getElem?_toArray, List.getElem?_cons_zero, List.getElem?_cons_succ] at x0 x1 x2
      go_wp2_with fail
      go_ret
      exact ⟨rfl, HB4.out⟩
    · have HM := hid hm
      have hle := may_len hm
      clear hm
      by_cases c1 : 40 < h.objs.length
      · go_wp2_with fail
        refine (fixed4_any _).mono ?_
        rintro e w4 ⟨rfl, hb⟩
        have HB4 := hid (HB3.out.trans (hb.mono HB3.out.size))
        have X4 := hid (X3.out.later hb)
        have O4 := hid (O3.out.below hb)
        have P4 := hid (P3.out.below hb)
        have Q4 := hid (Q3.out.below hb)
        clear x0 x1 x2
        clear hb
        have x0 := X4.out.cell 0
        have x1 := X4.out.cell 1
        have x2 := X4.out.cell 2
        simp only [List.getElem?_toArray, List.getElem?_cons_zero, List.getElem?_cons_succ] at x0 x1 x2
        go_wp2_with fail
        go_ret
        exact ⟨rfl, HB4.out⟩
      · by_cases c2 : 50 < a.length
        · go_wp2_with fail
          refine (fixed4_any _).mono ?_
          rintro e w4 ⟨rfl, hb⟩
          have HB4 := hid (HB3.out.trans (hb.mono HB3.out.size))
          have X4 := hid (X3.out.later hb)
          have O4 := hid (O3.out.below hb)
          have P4 := hid (P3.out.below hb)
          have Q4 := hid (Q3.out.below hb)
          clear x0 x1 x2
          clear hb
          have x0 := X4.out.cell 0
          have x1 := X4.out.cell 1
          have x2 := X4.out.cell 2
          simp only [List.getElem?_toArray, List.getElem?_cons_zero, List.getElem?_cons_succ] at x0 x1 x2
          go_wp2_with fail
          go_ret
          exact ⟨rfl, HB4.out⟩
        · by_cases c3 : 50 < b.length
          · go_wp2_with fail
            refine (fixed4_any _).mono ?_
            rintro e w4 ⟨rfl, hb⟩
            have HB4 := hid (HB3.out.trans (hb.mono HB3.out.size))
            have X4 := hid (X3.out.later hb)
            have O4 := hid (O3.out.below hb)
            have P4 := hid (P3.out.below hb)
            have Q4 := hid (Q3.out.below hb)
            clear x0 x1 x2
            clear hb
            have x0 := X4.out.cell 0
            have x1 := X4.out.cell 1
            have x2 := X4.out.cell 2
            simp only [List.getElem?_toArray, List.getElem?_cons_zero, List.getElem?_cons_succ] at x0 x1 x2
            go_wp2_with fail
            go_ret
            exact ⟨rfl, HB4.out⟩
          · go_wp2_with fail
            refine (live_any h a A Ra c ca _ O3.out HF.out P3.out hla).mono ?_
            rintro e w4 ⟨A4, c4, rfl, hi4, -, -, hb⟩
            have HB4 := hid (HB3.out.trans (hb.mono HB3.out.size))
            have X4 := hid (X3.out.later hb)
            have O4 := hid (O3.out.below hb)
            have P4 := hid (P3.out.below hb)
            have Q4 := hid (Q3.out.below hb)
            have LA4 := hid hi4
            clear x0 x1 x2 hi4 hb
            have x0 := X4.out.cell 0
            have x1 := X4.out.cell 1
            have x2 := X4.out.cell 2
            simp only [List.getElem?_toArray, List.getElem?_cons_zero, List.getElem?_cons_succ] at x0 x1 x2
            go_wp2_with fail
            refine (live_any h b A Rb c cb _ O4.out HF.out Q4.out hlb).mono ?_
            rintro e w5 ⟨A5, c5, rfl, hi5, -, -, hb⟩
            have HB5 := hid (HB4.out.trans (hb.mono HB4.out.size))
            have X5 := hid (X4.out.later hb)
            have O5 := hid (O4.out.below hb)
            have P5 := hid (P4.out.below hb)
            have Q5 := hid (Q4.out.below hb)
            have LA5 := hid (LA4.out.below hb)
            have LB5 := hid hi5
            clear x0 x1 x2 hi5 hb
            have x0 := X5.out.cell 0
            have x1 := X5.out.cell 1
            have x2 := X5.out.cell 2
            simp only [List.getElem?_toArray, List.getElem?_cons_zero, List.getElem?_cons_succ] at x0 x1 x2
            obtain ⟨v6, w6, A7, c7, w7, hr6, hr7, hi7, hb6, hb7⟩ := run_two w5.drew a b Ra Rb ca cb P5.out Q5.out HNA.out HNB.out (by omega)
            have HR6 := hid hr6
            have HR7 := hid hr7
            have HB6' : Hid (Below w5.heap.size w5 w6) := (Below.refl _ _).drew.trans hb6
            have HB7' : Hid (Below w5.heap.size w5 w7) := (Below.refl _ _).drew.trans hb7
            have LI7 := hid hi7
            clear hi7 hb6 hb7
            have hab : (a ++ b).length ≤ 9223372036854775807 := by simp; omega
            go_wp2_with fail
            refine wp_region_held_drew (S := (fun w' => w'.cell? ⟨w.heap.size, 0, none⟩ = some (.slice A h.objs.length c) ∧ w'.cell? ⟨w.heap.size, 1, none⟩ = some (.int .i64 h.cap) ∧ w'.cell? ⟨w.heap.size, 2, none⟩ = some (.int .i64 h.last) ∧ Below w5.heap.size w5 w')) (by kernel_rfl) ?_ (fun hHeld => ?_)
            · exact ⟨x0, x1, x2, (Below.refl _ _).drew⟩
            refine wpAnyH_take (i := 0) (oi := { dst := some 60, op := Go.Op.load 24 (Go.Operand.tmp 3), type := 24, pos := "law.go:66", after := #[], guard := none }) (v := ?vv1) rfl (by kernel_rfl) (by kernel_rfl) (by kernel_rfl) (fun _ _ _ h => h) (Or.inl ⟨by rfl, ?hy1⟩) (by assumption) ?rr1
            case hy1 => intro w hSw; (try dsimp only at hSw); go_simp; all_goals with_reducible rfl
            try simp only [Act.put, List.setIfInBounds_toArray, List.set_cons_zero, List.set_cons_succ]
            refine wpAnyH_take (i := 2) (oi := { dst := some 62, op := Go.Op.move (Go.Operand.tmp 1), type := 44, pos := "law.go:66", after := #[], guard := none }) (v := ?vv2) rfl (by kernel_rfl) (by kernel_rfl) (by kernel_rfl) (fun _ _ _ h => h) (Or.inl ⟨by rfl, ?hy2⟩) (by assumption) ?rr2
            case hy2 => intro w hSw; (try dsimp only at hSw); go_simp; all_goals with_reducible rfl
            try simp only [Act.put, List.setIfInBounds_toArray, List.set_cons_zero, List.set_cons_succ]
            refine wpAnyH_take (i := 4) (oi := { dst := some 64, op := Go.Op.move (Go.Operand.tmp 2), type := 44, pos := "law.go:66", after := #[], guard := none }) (v := ?vv3) rfl (by kernel_rfl) (by kernel_rfl) (by kernel_rfl) (fun _ _ _ h => h) (Or.inl ⟨by rfl, ?hy3⟩) (by assumption) ?rr3
            case hy3 => intro w hSw; (try dsimp only at hSw); go_simp; all_goals with_reducible rfl
            try simp only [Act.put, List.setIfInBounds_toArray, List.set_cons_zero, List.set_cons_succ]
            refine wpAnyH_ready (rs := [1]) (by kernel_rfl) (by simp) ?_
            refine AllReadyH.cons (i := 1) (o := { dst := some 61, op := Go.Op.buildSlice 44 0 #[], type := 44, pos := "law.go:66", after := #[], guard := none }) rfl (fun K hK => ?_) AllReadyH.nil
            go_simp
            refine hK.out _ _ ?_ (fun hHeld => ?_)
            · exact ⟨cell_old x0, cell_old x1, cell_old x2, draw_too (Below.refl _ _).drew (below_alloc _ _)⟩
            clear hK K
            try simp only [Act.put, List.setIfInBounds_toArray, List.set_cons_zero, List.set_cons_succ]
            have hH1 := hHeld
            clear hHeld
            have hHeld := hH1
            refine wpAnyH_ready (rs := [3]) (by kernel_rfl) (by simp) ?_
            refine AllReadyH.cons (i := 3) (o := { dst := some 63, op := Go.Op.call { callee := Go.Callee.builtin Go.Builtin.append, args := #[Go.Operand.tmp 61, Go.Operand.tmp 62], argTypes := #[44, 44] }, type := 44, pos := "law.go:66", after := #[{ on := 1, ground := Go.Ground.data }, { on := 2, ground := Go.Ground.data }], guard := none }) rfl (fun K hK => ?_) AllReadyH.nil

            rw [if_pos (by rfl)]
            refine wp_append_run (.tmp 61) (.tmp 62) 44 rfl _ _ HR6.out ?_
            refine hK.out _ _ ?_ (fun hHeld => ?_)
            · exact ⟨cell_later HB6'.out x0, cell_later HB6'.out x1, cell_later HB6'.out x2, HB6'.out⟩
            clear hK K
            try simp only [Act.put, List.setIfInBounds_toArray, List.set_cons_zero, List.set_cons_succ]
            have hH2 := hHeld
            clear hHeld
            have hHeld := hH2
            refine wpAnyH_ready (rs := [5]) (by kernel_rfl) (by simp) ?_
            refine AllReadyH.cons (i := 5) (o := { dst := some 65, op := Go.Op.call { callee := Go.Callee.builtin Go.Builtin.append, args := #[Go.Operand.tmp 63, Go.Operand.tmp 64], argTypes := #[44, 44] }, type := 44, pos := "law.go:66", after := #[{ on := 3, ground := Go.Ground.data }, { on := 4, ground := Go.Ground.data }, { on := 3, ground := Go.Ground.chain }], guard := none }) rfl (fun K hK => ?_) AllReadyH.nil

            rw [if_pos (by rfl)]
            refine wp_append_run (.tmp 63) (.tmp 64) 44 rfl _ _ HR7.out ?_
            refine hK.out _ _ ?_ (fun hHeld => ?_)
            · exact ⟨cell_later HB7'.out x0, cell_later HB7'.out x1, cell_later HB7'.out x2, HB7'.out⟩
            clear hK K
            try simp only [Act.put, List.setIfInBounds_toArray, List.set_cons_zero, List.set_cons_succ]
            have hH3 := hHeld
            clear hHeld
            have hHeld := hH3
            refine wpAnyH_ready (rs := [6]) (by kernel_rfl) (by simp) ?_
            refine AllReadyH.cons (i := 6) (o := { dst := some 66, op := Go.Op.call { callee := Go.Callee.value (Go.Operand.func 36), args := #[Go.Operand.tmp 60, Go.Operand.tmp 65], argTypes := #[24, 44] }, type := 48, pos := "law.go:66", after := #[{ on := 0, ground := Go.Ground.data }, { on := 5, ground := Go.Ground.data }, { on := 5, ground := Go.Ground.chain }], guard := none }) rfl (fun K hK => ?_) AllReadyH.nil
            go_simp
            go_at_call 36
            refine (live_len h (a ++ b) (a.length + b.length) List.length_append A A7 c c7 _ (O5.out.below HB7'.out) HF.out LI7.out hab).mono ?_
            rintro e w8 ⟨A8, c8, rfl, hi8, -, -, hb⟩
            refine hK.out _ _ ?_ (fun hHeld => ?_)
            · exact ⟨cell_later hb hH3.1, cell_later hb hH3.2.1, cell_later hb hH3.2.2.1, hH3.2.2.2.trans (hb.mono hH3.2.2.2.size)⟩
            clear hK K
            try simp only [Act.put, List.setIfInBounds_toArray, List.set_cons_zero, List.set_cons_succ]
            have hH4 := hHeld
            clear hHeld hb
            have hHeld := hH4
            refine wpAnyH_take (i := 7) (oi := { dst := some 59, op := Go.Op.move (Go.Operand.tmp 66), type := 48, pos := "law.go:66", after := #[{ on := 6, ground := Go.Ground.data }], guard := none }) (v := ?vv4) rfl (by kernel_rfl) (by kernel_rfl) (by kernel_rfl) (fun _ _ _ h => h) (Or.inl ⟨by rfl, ?hy4⟩) (by assumption) ?rr4
            case hy4 => intro w hSw; (try dsimp only at hSw); go_simp; all_goals with_reducible rfl
            try simp only [Act.put, List.setIfInBounds_toArray, List.set_cons_zero, List.set_cons_succ]
            refine wpAnyH_take (i := 8) (oi := { dst := some 67, op := Go.Op.extract (Go.Operand.tmp 59) 0, type := 44, pos := "law.go:66", after := #[{ on := 7, ground := Go.Ground.data }], guard := none }) (v := ?vv5) rfl (by kernel_rfl) (by kernel_rfl) (by kernel_rfl) (fun _ _ _ h => h) (Or.inl ⟨by rfl, ?hy5⟩) (by assumption) ?rr5
            case hy5 => intro w hSw; (try dsimp only at hSw); go_simp; all_goals with_reducible rfl
            try simp only [Act.put, List.setIfInBounds_toArray, List.set_cons_zero, List.set_cons_succ]
            refine wpAnyH_take (i := 9) (oi := { dst := some 68, op := Go.Op.extract (Go.Operand.tmp 59) 1, type := 29, pos := "law.go:66", after := #[{ on := 7, ground := Go.Ground.data }, { on := 10, ground := Go.Ground.gcOnly Go.Departure.lateStores }], guard := none }) (v := ?vv6) rfl (by kernel_rfl) (by kernel_rfl) (by kernel_rfl) (fun _ _ _ h => h) (Or.inl ⟨by rfl, ?hy6⟩) (by assumption) ?rr6
            case hy6 => intro w hSw; (try dsimp only at hSw); go_simp; all_goals with_reducible rfl
            try simp only [Act.put, List.setIfInBounds_toArray, List.set_cons_zero, List.set_cons_succ]
            refine wpAnyH_take (i := 10) (oi := { dst := some 11, op := Go.Op.assign (Go.Operand.tmp 67), type := 44, pos := "law.go:66", after := #[{ on := 8, ground := Go.Ground.data }, { on := 6, ground := Go.Ground.chain }, { on := 0, ground := Go.Ground.phase }, { on := 1, ground := Go.Ground.phase }, { on := 2, ground := Go.Ground.phase }, { on := 3, ground := Go.Ground.phase }, { on := 4, ground := Go.Ground.phase }, { on := 5, ground := Go.Ground.phase }, { on := 6, ground := Go.Ground.phase }, { on := 7, ground := Go.Ground.phase }, { on := 8, ground := Go.Ground.phase }, { on := 9, ground := Go.Ground.textOnly Go.Departure.lateStores }], guard := none }) (v := ?vv7) rfl (by kernel_rfl) (by kernel_rfl) (by kernel_rfl) (fun _ _ _ h => h) (Or.inl ⟨by rfl, ?hy7⟩) (by assumption) ?rr7
            case hy7 => intro w hSw; (try dsimp only at hSw); go_simp; all_goals with_reducible rfl
            try simp only [Act.put, List.setIfInBounds_toArray, List.set_cons_zero, List.set_cons_succ]
            refine wpAnyH_take (i := 11) (oi := { dst := some 12, op := Go.Op.assign (Go.Operand.tmp 68), type := 29, pos := "law.go:66", after := #[{ on := 9, ground := Go.Ground.data }, { on := 10, ground := Go.Ground.chain }, { on := 0, ground := Go.Ground.phase }, { on := 1, ground := Go.Ground.phase }, { on := 2, ground := Go.Ground.phase }, { on := 3, ground := Go.Ground.phase }, { on := 4, ground := Go.Ground.phase }, { on := 5, ground := Go.Ground.phase }, { on := 6, ground := Go.Ground.phase }, { on := 7, ground := Go.Ground.phase }, { on := 8, ground := Go.Ground.phase }, { on := 9, ground := Go.Ground.phase }, { on := 10, ground := Go.Ground.phase }], guard := none }) (v := ?vv8) rfl (by kernel_rfl) (by kernel_rfl) (by kernel_rfl) (fun _ _ _ h => h) (Or.inl ⟨by rfl, ?hy8⟩) (by assumption) ?rr8
            case hy8 => intro w hSw; (try dsimp only at hSw); go_simp; all_goals with_reducible rfl
            try simp only [Act.put, List.setIfInBounds_toArray, List.set_cons_zero, List.set_cons_succ]
            refine wpAnyH_done (by kernel_rfl) ?_ _
            have hHeldB := hHeld.2.2.2
            have HB8 := hid (HB5.out.trans (hHeldB.mono HB5.out.size))
            have HX8 := hid (X5.out.later hHeldB)
            have O8 := hid (O5.out.below hHeldB)
            have LA8 := hid (LA5.out.below hHeldB)
            have LB8 := hid (LB5.out.below hHeldB)
            have LC8 := hid hi8
            clear hi8 hHeldB hHeld hH1 hH2 hH3 hH4 HR6 HR7 hr6 hr7 x0 x1 x2
            by_cases hab0 : liE h a = 0 ∧ liE h b = 0
            · obtain ⟨ea, eb⟩ := hab0
              have eg := (liE_app HM.out).2 ⟨ea, eb⟩
              obtain ⟨-, -, lA⟩ := liE_good ea
              obtain ⟨-, -, lB⟩ := liE_good eb
              obtain ⟨-, -, lC⟩ := liE_good eg
              have LA := LA8.out
              have LB := LB8.out
              have LC := LC8.out
              rw [lA] at LA
              rw [lB] at LB
              rw [lC] at LC
              rw [ea, eb, eg, lA, lB, lC]
              have LA8 := hid LA
              have LB8 := hid LB
              have LC8 := hid LC
              clear LA LB LC ea eb eg lA lB lC
              have hlA : (liveL h a).length ≤ h.objs.length := by rw [liveL_length]; exact liveN_le _ _
              have hlB : (liveL h b).length ≤ h.objs.length := by rw [liveL_length]; exact liveN_le _ _
              have hlC : (liveL h (a ++ b)).length ≤ h.objs.length := by rw [liveL_length]; exact liveN_le _ _
              have EE := hid (own_empty w8)
              have EB := hid (below_alloc w8 (.cells #[] 3))
              go_wp2_with fail
              go_loopw [14, 13] (fun i s wr => ∃ (k : Nat) (A1 : Option Addr) (c1 : Nat), k ≤ (liveL h a).length ∧ i = .int .i64 k ∧ s = .slice A1 k c1 ∧ wr.ownsRow w8.heap.size 3 1 (.slice A1 k c1) k ((twice ((liveL h a).take k)).map (Value.int .i64)) ∧ Below w8.heap.size w8 wr) (fun i _ _ => (liveL h a).length - (intOf i).toNat)
              case atStart => exact ⟨0, _, _, Nat.zero_le _, rfl, rfl, EE.out, EB.out⟩
              case round =>
                obtain ⟨k, A1, c1, hk, rfl, rfl, hown, hbw⟩ := hrel
                have HW := hid hbw
                have HO := hid hown
                clear hown hbw
                by_cases hlt : k < (liveL h a).length
                · obtain ⟨i, hi, hri⟩ := live_at_ hlt
                  have hin := hri.lt
                  obtain ⟨bl, ol, rfl, hbl, hcl⟩ := LA8.out (by omega)
                  have lc := cell_later HW.out (hcl k _ (List.getElem?_eq_getElem hlt))
                  have HTS := hid (twice_succ (liveL h a) k hlt)
                  rw [hi] at lc HTS
                  have HAL := hid (below_alloc wr (.cells #[.int .i64 (2 * (i : Int))] 3))
                  have HO2 := hid (own_later HO.out HAL.out)
                  have HN := hid (Lies.new wr 3 #[.int .i64 (2 * (i : Int))])
                  have hz := HW.out.size
                  have hz2 : w8.heap.size ≤ (wr.alloc (.cells #[.int .i64 (2 * (i : Int))] 3)).heap.size := by simp; omega
                  clear hcl hri
                  go_wp2_with (at_builtin; refine wpList_append_one rfl (.tmp 84) (.tmp 90) rfl w8.heap.size _ _ _ rfl HO2.out _ _ rfl HN.out (by omega) hz2 ?_)
                  intro v' w' h1 h2
                  obtain ⟨A2, c2, rfl⟩ := own_form h1
                  have h1 : w'.ownsRow w8.heap.size 3 1 (.slice A2 (k + 1) c2) (k + 1) ((twice ((liveL h a).take (k + 1))).map (Value.int .i64)) := by rw [HTS.out, List.map_append]; exact h1
                  have hb2 := HW.out.trans ((HAL.out.mono hz).grown h2 hz2 (fun q hq => (HO2.out.lt q hq).1))
                  have H1 := hid h1
                  have HB2 := hid hb2
                  clear h1 h2 hb2
                  go_wp2_with fail
                  go_roundw
                  case rel => exact ⟨k + 1, A2, c2, by omega, by go_num, rfl, H1.out, HB2.out⟩
                  case measure => simp [intOf]; omega
                · obtain rfl : k = (liveL h a).length := by omega
                  have el : (twice (liveL h a)).length = (liveL h a).length := by simp [twice]
                  have LI := hid (own_ints (xs := twice (liveL h a)) (c := c1) (S := A1) (w := wr) (base := w8.heap.size) (by have := HO.out; rw [List.take_length] at this; rw [el]; exact this))
                  have O9 := hid (O8.out.below HW.out)
                  have X9 := hid (HX8.out.later HW.out)
                  have x0 := X9.out.cell 0
                  have x1 := X9.out.cell 1
                  have x2 := X9.out.cell 2
                  simp only [List.getElem?_toArray, List.getElem?_cons_zero, List.getElem?_cons_succ] at x0 x1 x2
                  have HL := live_any h (twice (liveL h a)) A A1 c c1 wr O9.out HF.out LI.out (by omega)
                  rw [el, (again HM.out a).1, (again HM.out a).2] at HL
                  have HLL := hid HL
                  clear HL
                  go_wp2_with fail
                  refine HLL.out.mono ?_
                  rintro e w10 ⟨A10, c10, rfl, hi10, -, -, hb⟩
                  have HB10 := hid (HW.out.trans (hb.mono HW.out.size))
                  have LI10 := hid hi10
                  have X10 := hid (X9.out.later hb)
                  clear hb hi10 x0 x1 x2
                  go_wp2_with fail
                  refine (rints_any (liveL h a) (liveL h a) A10 A4 c10 c4 _ LI10.out (LA8.out.below HB10.out) (by omega)).mono ?_
                  rintro e w11 ⟨rfl, hb⟩
                  have HB11 := hid (HB10.out.trans (hb.mono HB10.out.size))
                  have X11 := hid (X10.out.later hb)
                  clear hb
                  rw [decide_eq_true (rfl : liveL h a = liveL h a)]
                  go_wp2_with fail
                  go_loopw [17] (fun i wr => ∃ k : Nat, k ≤ h.objs.length ∧ i = .int .i64 k ∧ Below w8.heap.size w8 wr ∧ Below w11.heap.size w11 wr) (fun i _ => h.objs.length - (intOf i).toNat)
                  case atStart => exact ⟨0, Nat.zero_le _, rfl, HB11.out, Below.refl _ _⟩
                  case round =>
                    clear HW
                    obtain ⟨k, hk, rfl, hbw, hbx⟩ := hrel
                    have HW := hid hbw
                    have HX := hid hbx
                    have x0 := (X11.out.later hbx).cell 0
                    simp only [List.getElem?_toArray, List.getElem?_cons_zero] at x0
                    clear hbw hbx
                    by_cases hlt : k < h.objs.length
                    · have hlm := less_mem (h := h) a b k
                      cases hba : decide ((k : Int) ∈ liveL h a)
                      · cases hbb : decide ((k : Int) ∈ liveL h b)
                        · rw [hba, hbb] at hlm
                          go_wp2_with fail
                          refine (in_any (liveL h (a ++ b)) k A8 c8 _ (LC8.out.below HW.out) (by omega)).mono ?_
                          rintro e w12 ⟨rfl, hb⟩
                          rw [hlm]
                          have HW2 := hid (HW.out.trans (hb.mono HW.out.size))
                          have HX2 := hid (HX.out.trans (hb.mono HX.out.size))
                          clear hb x0
                          go_wp2_with fail
                          refine (in_any (liveL h a) k A4 c4 _ (LA8.out.below HW2.out) (by omega)).mono ?_
                          rintro e w13 ⟨rfl, hb⟩
                          rw [hba]
                          have HW3 := hid (HW2.out.trans (hb.mono HW2.out.size))
                          have HX3 := hid (HX2.out.trans (hb.mono HX2.out.size))
                          clear hb
                          go_wp2_with fail
                          refine (in_any (liveL h b) k A5 c5 _ (LB8.out.below HW3.out) (by omega)).mono ?_
                          rintro e w14 ⟨rfl, hb⟩
                          rw [hbb]
                          have HW4 := hid (HW3.out.trans (hb.mono HW3.out.size))
                          have HX4 := hid (HX3.out.trans (hb.mono HX3.out.size))
                          clear hb
                          go_wp2_with fail
                          go_roundw
                          case rel => exact ⟨k + 1, by omega, by go_num, HW4.out, HX4.out⟩
                          case measure => simp [intOf]; omega
                        · rw [hba, hbb] at hlm
                          go_wp2_with fail
                          refine (in_any (liveL h (a ++ b)) k A8 c8 _ (LC8.out.below HW.out) (by omega)).mono ?_
                          rintro e w12 ⟨rfl, hb⟩
                          rw [hlm]
                          have HW2 := hid (HW.out.trans (hb.mono HW.out.size))
                          have HX2 := hid (HX.out.trans (hb.mono HX.out.size))
                          clear hb x0
                          go_wp2_with fail
                          refine (in_any (liveL h a) k A4 c4 _ (LA8.out.below HW2.out) (by omega)).mono ?_
                          rintro e w13 ⟨rfl, hb⟩
                          rw [hba]
                          have HW3 := hid (HW2.out.trans (hb.mono HW2.out.size))
                          have HX3 := hid (HX2.out.trans (hb.mono HX2.out.size))
                          clear hb
                          go_wp2_with fail
                          refine (in_any (liveL h b) k A5 c5 _ (LB8.out.below HW3.out) (by omega)).mono ?_
                          rintro e w14 ⟨rfl, hb⟩
                          rw [hbb]
                          have HW4 := hid (HW3.out.trans (hb.mono HW3.out.size))
                          have HX4 := hid (HX3.out.trans (hb.mono HX3.out.size))
                          clear hb
                          go_wp2_with fail
                          go_roundw
                          case rel => exact ⟨k + 1, by omega, by go_num, HW4.out, HX4.out⟩
                          case measure => simp [intOf]; omega
                      · rw [hba, Bool.true_or] at hlm
                        go_wp2_with fail
                        refine (in_any (liveL h (a ++ b)) k A8 c8 _ (LC8.out.below HW.out) (by omega)).mono ?_
                        rintro e w12 ⟨rfl, hb⟩
                        rw [hlm]
                        have HW2 := hid (HW.out.trans (hb.mono HW.out.size))
                        have HX2 := hid (HX.out.trans (hb.mono HX.out.size))
                        clear hb x0
                        go_wp2_with fail
                        refine (in_any (liveL h a) k A4 c4 _ (LA8.out.below HW2.out) (by omega)).mono ?_
                        rintro e w13 ⟨rfl, hb⟩
                        rw [hba]
                        have HW3 := hid (HW2.out.trans (hb.mono HW2.out.size))
                        have HX3 := hid (HX2.out.trans (hb.mono HX2.out.size))
                        clear hb
                        go_wp2_with fail
                        go_roundw
                        case rel => exact ⟨k + 1, by omega, by go_num, HW3.out, HX3.out⟩
                        case measure => simp [intOf]; omega
                    · go_wp2_with fail
                      go_ret
                      exact ⟨rfl, HB8.out.trans (HW.out.mono HB8.out.size)⟩
            · have eg : liE h (a ++ b) = 31 := by
                rcases liE_or HM.out (a ++ b) with e | e
                · exact absurd ((liE_app HM.out).1 e) hab0
                · exact e
              rw [eg]
              rcases liE_or HM.out a with ea | ea
              · rcases liE_or HM.out b with eb | eb
                · exact absurd ⟨ea, eb⟩ hab0
                · rw [ea, eb]
                  go_wp2_with fail
                  go_ret
                  exact ⟨rfl, HB8.out⟩
              · rw [ea]
                go_wp2_with fail
                go_ret
                exact ⟨rfl, HB8.out⟩
end Go.Proofs.Ytpeojbkbeigahaa
