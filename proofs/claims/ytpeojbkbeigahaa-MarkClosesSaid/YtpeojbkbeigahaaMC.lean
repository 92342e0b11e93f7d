/- MarkCloses walked: whatever heap and roots, it answers true. -/
import Derived.Test.YtpeojbkbeigahaaMX
import Derived.Test.YtpeojbkbeigahaaN
import Derived.Test.YtpeojbkbeigahaaR
import Derived.Test.YtpeojbkbeigahaaMB
import Derived.BigQuiet
namespace Go.Proofs.Ytpeojbkbeigahaa
open Go.RowKit
set_option maxRecDepth 100000
theorem draw_then {w v w' : World} (h : Below w.heap.size w v) (hb : Below v.heap.size v w') : Below w.heap.size w w' := h.trans (hb.mono h.size)
theorem liE_ok {h : Hp} {rs : List Int} (e : liE h rs = 0) : mayB h = true ∧ (∀ v ∈ rs, hasB h.objs.length v = true) ∧ liL h rs = liveL h rs := by
  have e' := e
  unfold liE at e
  split at e
  · rename_i hm
    split at e
    · rename_i hr
      exact ⟨hm, List.all_eq_true.1 hr, by unfold liL; rw [if_pos e']⟩
    · cases e
  · cases e
theorem liE_no {h : Hp} {rs : List Int} (e : liE h rs ≠ 0) : liL h rs = [] := by unfold liL; rw [if_neg e]
theorem live_at {h : Hp} {rs : List Int} {k : Nat} (hk : k < (liveL h rs).length) : ∃ i : Nat, (liveL h rs)[k] = (i : Int) ∧ Reach h rs i := by
  obtain ⟨i, hi, hr⟩ := mem_liveL.1 (List.getElem_mem hk)
  exact ⟨i, hi, hr⟩
theorem live_in {h : Hp} {rs : List Int} {v : Int} (hr : refB h.objs.length v = true) (hl : Reach h rs (atV v).toNat) : refI h.objs.length v ∈ liveL h rs := by
  rw [refI_nonneg hr]
  exact mem_liveL.2 ⟨_, (refB_nat hr).2.symm, hl⟩
theorem live_lt {h : Hp} {rs : List Int} {k : Nat} (hk : k + 1 < (liveL h rs).length) : (liveL h rs)[k]'(by omega) < (liveL h rs)[k + 1] :=
  List.pairwise_iff_getElem.1 (liveL_sorted h rs) k (k + 1) (by omega) hk (by omega)
set_option maxHeartbeats 4000000 in
theorem closes_any (h : Hp) (rs : List Int) (A R : Option Addr) (c d : Nat) (w : World) (hs : ObsR w A h.objs) (fit : h.Fit) (hr : IntsR w R rs) (hl : rs.length ≤ 9223372036854775807) :
    Calls Try.prog 10 #[.agg #[.slice A h.objs.length c, .int .i64 h.cap, .int .i64 h.last], .slice R rs.length d] w fun e w' => e = .returned (.bool true) ∧ Below w.heap.size w w' := by
  have HB0 := hid (below_alloc w (.cells #[Value.slice A h.objs.length c, Value.int .i64 h.cap, Value.int .i64 h.last] 24))
  have X0 := hid (Lies.new w 24 #[Value.slice A h.objs.length c, Value.int .i64 h.cap, Value.int .i64 h.last])
  have O0 := hid (hs.below HB0.out)
  have R0 := hid (hr.below HB0.out)
  have HF := hid fit
  have hfl := fit.1
  clear hs fit hr
  go_enter Try.func10, Try.ntmps10
  go_wp2_with fail
  refine (fixed4_any _).mono ?_
  rintro e w1 ⟨rfl, hb⟩
  have HB1 := hid (HB0.out.trans (hb.mono HB0.out.size))
  have X1 := hid (X0.out.later hb)
  have O1 := hid (O0.out.below hb)
  have R1 := hid (R0.out.below hb)
  clear hb
  have x0 := X1.out.cell 0
  have x1 := X1.out.cell 1
  have x2 := X1.out.cell 2
  simp only [List.getElem?_toArray, List.getElem?_cons_zero, List.getElem?_cons_succ] at x0 x1 x2
  go_wp2_with fail
  refine (small_ok h A c _ O1.out HF.out).mono ?_
  rintro e w2 ⟨sm, rfl, hb⟩
  have HB2 := hid (HB1.out.trans (hb.mono HB1.out.size))
  have X2 := hid (X1.out.later hb)
  have O2 := hid (O1.out.below hb)
  have R2 := hid (R1.out.below hb)
  clear x0 x1 x2
  clear hb
  have x0 := X2.out.cell 0
  have x1 := X2.out.cell 1
  have x2 := X2.out.cell 2
  simp only [List.getElem?_toArray, List.getElem?_cons_zero, List.getElem?_cons_succ] at x0 x1 x2
  cases sm
  · go_wp2_with fail
    refine (fixed4_any _).mono ?_
    rintro e w3 ⟨rfl, hb⟩
    have HB3 := hid (HB2.out.trans (hb.mono HB2.out.size))
    have X3 := hid (X2.out.later hb)
    have O3 := hid (O2.out.below hb)
    have R3 := hid (R2.out.below hb)
    clear x0 x1 x2
    clear hb
    have x0 := X3.out.cell 0
    have x1 := X3.out.cell 1
    have x2 := X3.out.cell 2
    simp only [List.getElem?_toArray, List.getElem?_cons_zero, List.getElem?_cons_succ] at x0 x1 x2
    go_wp2_with fail
    go_ret
    exact ⟨rfl, HB3.out⟩
  · go_wp2_with fail
    refine (rmay_any h A c _ O2.out HF.out).mono ?_
    rintro e w3 ⟨rfl, hb⟩
    have HB3 := hid (HB2.out.trans (hb.mono HB2.out.size))
    have X3 := hid (X2.out.later hb)
    have O3 := hid (O2.out.below hb)
    have R3 := hid (R2.out.below hb)
    clear x0 x1 x2
    clear hb
    have x0 := X3.out.cell 0
    have x1 := X3.out.cell 1
    have x2 := X3.out.cell 2
    simp only [List.getElem?_toArray, List.getElem?_cons_zero, List.getElem?_cons_succ] at x0 x1 x2
    cases hm : mayB h
    · go_wp2_with fail
      refine (fixed4_any _).mono ?_
      rintro e w4 ⟨rfl, hb⟩
      have HB4 := hid (HB3.out.trans (hb.mono HB3.out.size))
      have X4 := hid (X3.out.later hb)
      have O4 := hid (O3.out.below hb)
      have R4 := hid (R3.out.below hb)
      clear x0 x1 x2
      clear hb
      have x0 := X4.out.cell 0
      have x1 := X4.out.cell 1
      have x2 := X4.out.cell 2
      simp only [List.getElem?_toArray, List.getElem?_cons_zero, List.getElem?_cons_succ] at x0 x1 x2
      go_wp2_with fail
      go_ret
      exact ⟨rfl, HB4.out⟩
    · have HM := hid hm
      have hle := may_len hm
      clear hm
      by_cases c1 : 40 < h.objs.length
      · go_wp2_with fail
        refine (fixed4_any _).mono ?_
        rintro e w4 ⟨rfl, hb⟩
        have HB4 := hid (HB3.out.trans (hb.mono HB3.out.size))
        have X4 := hid (X3.out.later hb)
        have O4 := hid (O3.out.below hb)
        have R4 := hid (R3.out.below hb)
        clear x0 x1 x2
        clear hb
        have x0 := X4.out.cell 0
        have x1 := X4.out.cell 1
        have x2 := X4.out.cell 2
        simp only [List.getElem?_toArray, List.getElem?_cons_zero, List.getElem?_cons_succ] at x0 x1 x2
        go_wp2_with fail
        go_ret
        exact ⟨rfl, HB4.out⟩
      · by_cases c2 : 100 < rs.length
        · go_wp2_with fail
          refine (fixed4_any _).mono ?_
          rintro e w4 ⟨rfl, hb⟩
          have HB4 := hid (HB3.out.trans (hb.mono HB3.out.size))
          have X4 := hid (X3.out.later hb)
          have O4 := hid (O3.out.below hb)
          have R4 := hid (R3.out.below hb)
          clear x0 x1 x2
          clear hb
          have x0 := X4.out.cell 0
          have x1 := X4.out.cell 1
          have x2 := X4.out.cell 2
          simp only [List.getElem?_toArray, List.getElem?_cons_zero, List.getElem?_cons_succ] at x0 x1 x2
          go_wp2_with fail
          go_ret
          exact ⟨rfl, HB4.out⟩
        · go_wp2_with fail
          refine (live_any h rs A R c d _ O3.out HF.out R3.out hl).mono ?_
          rintro e w4 ⟨A4, c4, rfl, hi4, -, -, hb⟩
          have HB4 := hid (HB3.out.trans (hb.mono HB3.out.size))
          have X4 := hid (X3.out.later hb)
          have O4 := hid (O3.out.below hb)
          have R4 := hid (R3.out.below hb)
          have L4 := hid hi4
          clear x0 x1 x2 hi4 hb
          have hll := liL_len h rs
          by_cases he : liE h rs = 0
          · obtain ⟨-, hvals, hL⟩ := liE_ok he
            rw [hL] at hll ⊢
            have HLL := L4.out
            rw [hL] at HLL
            have L5 := hid HLL
            rw [he]
            have HV := hid hvals
            clear hvals hL he HLL L4
            go_wp2_with fail
            go_loopw [7] (fun i wr => ∃ k : Nat, k ≤ rs.length ∧ i = .int .i64 k ∧ Below w4.heap.size w4 wr) (fun i _ => rs.length - (intOf i).toNat)
            case atStart => exact ⟨0, Nat.zero_le _, rfl, Below.refl _ _⟩
            case round =>
              obtain ⟨k, hk, rfl, hbw⟩ := hrel
              have HW := hid hbw
              have HX := hid (X4.out.later hbw)
              have HO := hid (O4.out.below hbw)
              have HI := hid (L5.out.below hbw)
              have HRR := R4.out.below hbw
              have x0 := HX.out.cell 0
              have x1 := HX.out.cell 1
              have x2 := HX.out.cell 2
              simp only [List.getElem?_toArray, List.getElem?_cons_zero, List.getElem?_cons_succ] at x0 x1 x2
              clear hbw
              by_cases hlt : k < rs.length
              · obtain ⟨bs, os, rfl, hbs, hcs⟩ := HRR (by omega)
                have rc := hcs k _ (List.getElem?_eq_getElem hlt)
                have hvk := HV.out _ (List.getElem_mem hlt)
                have hroot : refB h.objs.length rs[k] = true → Reach h rs (atV rs[k]).toNat := fun hb => .root _ (List.getElem_mem hlt) hb
                obtain ⟨v, hv⟩ : ∃ v, v = rs[k] := ⟨_, rfl⟩
                rw [← hv] at rc hvk hroot
                have HRT := hid hroot
                clear hcs hv hvk hroot HRR
                cases hrv : refB h.objs.length v
                · have rv : refI h.objs.length v = -1 := refI_no hrv
                  go_wp2_with fail
                  refine wp_region_held_drew (S := (fun w' => w'.cell? ⟨w.heap.size, 0, none⟩ = some (.slice A h.objs.length c) ∧ w'.cell? ⟨w.heap.size, 1, none⟩ = some (.int .i64 h.cap) ∧ w'.cell? ⟨w.heap.size, 2, none⟩ = some (.int .i64 h.last) ∧ w'.cell? ⟨bs, os + k, none⟩ = some (.int .i64 v) ∧ Below wr.heap.size wr w')) (by kernel_rfl) ?_ (fun hHeld => ?_)
                  · exact ⟨x0, x1, x2, rc, (Below.refl _ _).drew⟩
                  refine wpAnyH_take (i := 0) (oi := { dst := some 52, op := Go.Op.load 24 (Go.Operand.tmp 2), type := 24, pos := "law.go:41", after := #[], guard := none }) (v := ?vv1) rfl (by kernel_rfl) (by kernel_rfl) (by kernel_rfl) (fun _ _ _ h => h) (Or.inl ⟨by rfl, ?hy1⟩) (by assumption) ?rr1
                  case hy1 => intro w hSw; (try dsimp only at hSw); go_simp; all_goals with_reducible rfl
                  try simp only [Act.put, List.setIfInBounds_toArray, List.set_cons_zero, List.set_cons_succ]
                  refine wpAnyH_take (i := 1) (oi := { dst := some 53, op := Go.Op.move (Go.Operand.tmp 1), type := 44, pos := "law.go:41", after := #[], guard := none }) (v := ?vv2) rfl (by kernel_rfl) (by kernel_rfl) (by kernel_rfl) (fun _ _ _ h => h) (Or.inl ⟨by rfl, ?hy2⟩) (by assumption) ?rr2
                  case hy2 => intro w hSw; (try dsimp only at hSw); go_simp; all_goals with_reducible rfl
                  try simp only [Act.put, List.setIfInBounds_toArray, List.set_cons_zero, List.set_cons_succ]
                  refine wpAnyH_take (i := 2) (oi := { dst := some 54, op := Go.Op.move (Go.Operand.tmp 7), type := 3, pos := "law.go:41", after := #[], guard := none }) (v := ?vv3) rfl (by kernel_rfl) (by kernel_rfl) (by kernel_rfl) (fun _ _ _ h => h) (Or.inl ⟨by rfl, ?hy3⟩) (by assumption) ?rr3
                  case hy3 => intro w hSw; (try dsimp only at hSw); go_simp; all_goals with_reducible rfl
                  try simp only [Act.put, List.setIfInBounds_toArray, List.set_cons_zero, List.set_cons_succ]
                  refine wpAnyH_take (i := 3) (oi := { dst := some 55, op := Go.Op.indexAddr 44 (Go.Operand.tmp 53) (Go.Operand.tmp 54), type := 0, pos := "law.go:41", after := #[{ on := 1, ground := Go.Ground.data }, { on := 2, ground := Go.Ground.data }], guard := none }) (v := ?vv4) rfl (by kernel_rfl) (by kernel_rfl) (by kernel_rfl) (fun _ _ _ h => h) (Or.inl ⟨by rfl, ?hy4⟩) (by assumption) ?rr4
                  case hy4 => intro w hSw; (try dsimp only at hSw); go_simp; all_goals with_reducible rfl
                  try simp only [Act.put, List.setIfInBounds_toArray, List.set_cons_zero, List.set_cons_succ]
                  refine wpAnyH_take (i := 4) (oi := { dst := some 56, op := Go.Op.load 3 (Go.Operand.tmp 55), type := 3, pos := "law.go:41", after := #[{ on := 3, ground := Go.Ground.data }], guard := none }) (v := ?vv5) rfl (by kernel_rfl) (by kernel_rfl) (by kernel_rfl) (fun _ _ _ h => h) (Or.inl ⟨by rfl, ?hy5⟩) (by assumption) ?rr5
                  case hy5 => intro w hSw; (try dsimp only at hSw); go_simp; all_goals with_reducible rfl
                  try simp only [Act.put, List.setIfInBounds_toArray, List.set_cons_zero, List.set_cons_succ]
                  refine wpAnyH_ready (rs := [5]) (by kernel_rfl) (by simp) ?_
                  refine AllReadyH.cons (i := 5) (o := { dst := some 57, op := Go.Op.call { callee := Go.Callee.value (Go.Operand.func 33), args := #[Go.Operand.tmp 52, Go.Operand.tmp 56], argTypes := #[24, 3] }, type := 3, pos := "law.go:41", after := #[{ on := 0, ground := Go.Ground.data }, { on := 4, ground := Go.Ground.data }], guard := none }) rfl (fun K hK => ?_) AllReadyH.nil
                  go_simp
                  go_at_call 33
                  refine (rref_any h v A c _).mono ?_
                  rintro e w' ⟨rfl, hb⟩
                  rw [rv]
                  refine hK.out _ _ ?_ (fun hHeld => ?_)
                  · exact ⟨cell_later hb x0, cell_later hb x1, cell_later hb x2, cell_later hb rc, draw_then (Below.refl _ _).drew hb⟩
                  clear hK K
                  try simp only [Act.put, List.setIfInBounds_toArray, List.set_cons_zero, List.set_cons_succ]
                  have hH1 := hHeld
                  clear hHeld hb
                  have hHeld := hH1
                  refine wpAnyH_take (i := 6) (oi := { dst := some 58, op := Go.Op.binOp Go.BinOp.geq 3 (Go.Operand.tmp 57) (Go.Operand.const (Go.Value.int Go.IntKind.i64 0)) 3, type := 4, pos := "law.go:41", after := #[{ on := 5, ground := Go.Ground.data }], guard := none }) (v := ?vv6) rfl (by kernel_rfl) (by kernel_rfl) (by kernel_rfl) (fun _ _ _ h => h) (Or.inl ⟨by rfl, ?hy6⟩) (by assumption) ?rr6
                  case hy6 => intro w hSw; (try dsimp only at hSw); go_simp; all_goals with_reducible rfl
                  try simp only [Act.put, List.setIfInBounds_toArray, List.set_cons_zero, List.set_cons_succ]
                  refine wpAnyH_take (i := 7) (oi := { dst := some 59, op := Go.Op.move (Go.Operand.tmp 58), type := 4, pos := "law.go:41", after := #[{ on := 6, ground := Go.Ground.data }, { on := 5, ground := Go.Ground.chain }], guard := none }) (v := ?vv7) rfl (by kernel_rfl) (by kernel_rfl) (by kernel_rfl) (fun _ _ _ h => h) (Or.inl ⟨by rfl, ?hy7⟩) (by assumption) ?rr7
                  case hy7 => intro w hSw; (try dsimp only at hSw); go_simp; all_goals with_reducible rfl
                  try simp only [Act.put, List.setIfInBounds_toArray, List.set_cons_zero, List.set_cons_succ]
                  refine wpAnyH_take (i := 8) (oi := { dst := some 60, op := Go.Op.move (Go.Operand.tmp 5), type := 44, pos := "law.go:41", after := #[{ on := 7, ground := Go.Ground.guard }], guard := some (7, true) }) (v := undef) rfl (by kernel_rfl) (by kernel_rfl) (by kernel_rfl) (fun _ _ _ h => h) (Or.inr ⟨by rfl, rfl⟩) (by assumption) ?_
                  try simp only [Act.put, List.setIfInBounds_toArray, List.set_cons_zero, List.set_cons_succ]
                  refine wpAnyH_take (i := 9) (oi := { dst := some 61, op := Go.Op.load 24 (Go.Operand.tmp 2), type := 24, pos := "law.go:41", after := #[{ on := 7, ground := Go.Ground.guard }], guard := some (7, true) }) (v := undef) rfl (by kernel_rfl) (by kernel_rfl) (by kernel_rfl) (fun _ _ _ h => h) (Or.inr ⟨by rfl, rfl⟩) (by assumption) ?_
                  try simp only [Act.put, List.setIfInBounds_toArray, List.set_cons_zero, List.set_cons_succ]
                  refine wpAnyH_take (i := 10) (oi := { dst := some 62, op := Go.Op.move (Go.Operand.tmp 1), type := 44, pos := "law.go:41", after := #[{ on := 7, ground := Go.Ground.guard }], guard := some (7, true) }) (v := undef) rfl (by kernel_rfl) (by kernel_rfl) (by kernel_rfl) (fun _ _ _ h => h) (Or.inr ⟨by rfl, rfl⟩) (by assumption) ?_
                  try simp only [Act.put, List.setIfInBounds_toArray, List.set_cons_zero, List.set_cons_succ]
                  refine wpAnyH_take (i := 11) (oi := { dst := some 63, op := Go.Op.move (Go.Operand.tmp 7), type := 3, pos := "law.go:41", after := #[{ on := 7, ground := Go.Ground.guard }], guard := some (7, true) }) (v := undef) rfl (by kernel_rfl) (by kernel_rfl) (by kernel_rfl) (fun _ _ _ h => h) (Or.inr ⟨by rfl, rfl⟩) (by assumption) ?_
                  try simp only [Act.put, List.setIfInBounds_toArray, List.set_cons_zero, List.set_cons_succ]
                  refine wpAnyH_take (i := 12) (oi := { dst := some 64, op := Go.Op.indexAddr 44 (Go.Operand.tmp 62) (Go.Operand.tmp 63), type := 0, pos := "law.go:41", after := #[{ on := 10, ground := Go.Ground.data }, { on := 11, ground := Go.Ground.data }, { on := 7, ground := Go.Ground.guard }], guard := some (7, true) }) (v := undef) rfl (by kernel_rfl) (by kernel_rfl) (by kernel_rfl) (fun _ _ _ h => h) (Or.inr ⟨by rfl, rfl⟩) (by assumption) ?_
                  try simp only [Act.put, List.setIfInBounds_toArray, List.set_cons_zero, List.set_cons_succ]
                  refine wpAnyH_take (i := 13) (oi := { dst := some 65, op := Go.Op.load 3 (Go.Operand.tmp 64), type := 3, pos := "law.go:41", after := #[{ on := 12, ground := Go.Ground.data }, { on := 7, ground := Go.Ground.guard }], guard := some (7, true) }) (v := undef) rfl (by kernel_rfl) (by kernel_rfl) (by kernel_rfl) (fun _ _ _ h => h) (Or.inr ⟨by rfl, rfl⟩) (by assumption) ?_
                  try simp only [Act.put, List.setIfInBounds_toArray, List.set_cons_zero, List.set_cons_succ]
                  refine wpAnyH_take (i := 14) (oi := { dst := some 66, op := Go.Op.call { callee := Go.Callee.value (Go.Operand.func 33), args := #[Go.Operand.tmp 61, Go.Operand.tmp 65], argTypes := #[24, 3] }, type := 3, pos := "law.go:41", after := #[{ on := 9, ground := Go.Ground.data }, { on := 13, ground := Go.Ground.data }, { on := 7, ground := Go.Ground.chain }, { on := 7, ground := Go.Ground.guard }], guard := some (7, true) }) (v := undef) rfl (by kernel_rfl) (by kernel_rfl) (by kernel_rfl) (fun _ _ _ h => h) (Or.inr ⟨by rfl, rfl⟩) (by assumption) ?_
                  try simp only [Act.put, List.setIfInBounds_toArray, List.set_cons_zero, List.set_cons_succ]
                  refine wpAnyH_take (i := 15) (oi := { dst := some 67, op := Go.Op.call { callee := Go.Callee.value (Go.Operand.func 41), args := #[Go.Operand.tmp 60, Go.Operand.tmp 66], argTypes := #[44, 3] }, type := 4, pos := "law.go:41", after := #[{ on := 8, ground := Go.Ground.data }, { on := 14, ground := Go.Ground.data }, { on := 14, ground := Go.Ground.chain }, { on := 7, ground := Go.Ground.guard }], guard := some (7, true) }) (v := undef) rfl (by kernel_rfl) (by kernel_rfl) (by kernel_rfl) (fun _ _ _ h => h) (Or.inr ⟨by rfl, rfl⟩) (by assumption) ?_
                  try simp only [Act.put, List.setIfInBounds_toArray, List.set_cons_zero, List.set_cons_succ]
                  refine wpAnyH_take (i := 16) (oi := { dst := some 68, op := Go.Op.unOp Go.UnOp.not 4 (Go.Operand.tmp 67), type := 4, pos := "law.go:41", after := #[{ on := 15, ground := Go.Ground.data }, { on := 7, ground := Go.Ground.guard }], guard := some (7, true) }) (v := undef) rfl (by kernel_rfl) (by kernel_rfl) (by kernel_rfl) (fun _ _ _ h => h) (Or.inr ⟨by rfl, rfl⟩) (by assumption) ?_
                  try simp only [Act.put, List.setIfInBounds_toArray, List.set_cons_zero, List.set_cons_succ]
                  refine wpAnyH_take (i := 17) (oi := { dst := some 69, op := Go.Op.pick (Go.Operand.tmp 59) (Go.Operand.tmp 68) (Go.Operand.const (Go.Value.bool false)), type := 4, pos := "law.go:41", after := #[{ on := 7, ground := Go.Ground.data }, { on := 16, ground := Go.Ground.data }], guard := none }) (v := ?vv17) rfl (by kernel_rfl) (by kernel_rfl) (by kernel_rfl) (fun _ _ _ h => h) (Or.inl ⟨by rfl, ?hy17⟩) (by assumption) ?rr17
                  case hy17 => intro w hSw; (try dsimp only at hSw); go_simp; all_goals with_reducible rfl
                  try simp only [Act.put, List.setIfInBounds_toArray, List.set_cons_zero, List.set_cons_succ]
                  refine wpAnyH_done (by kernel_rfl) ?_ _
                  have hHeldB := hHeld.2.2.2.2
                  go_wp2_with fail
                  go_roundw
                  case rel => exact ⟨k + 1, by omega, by go_num, HW.out.trans (hHeldB.mono HW.out.size)⟩
                  case measure => simp [intOf]; omega
                · obtain ⟨i, hi⟩ : ∃ i : Nat, atV v = i := ⟨_, (refB_nat hrv).2.symm⟩
                  have rv : refI h.objs.length v = i := by rw [refI_nonneg hrv, hi]
                  have hmem : (i : Int) ∈ liveL h rs := by rw [← rv]; exact live_in hrv (HRT.out hrv)
                  have hin : decide ((i : Int) ∈ liveL h rs) = true := decide_eq_true hmem
                  clear hmem
                  go_wp2_with fail
                  refine wp_region_held_drew (S := (fun w' => w'.cell? ⟨w.heap.size, 0, none⟩ = some (.slice A h.objs.length c) ∧ w'.cell? ⟨w.heap.size, 1, none⟩ = some (.int .i64 h.cap) ∧ w'.cell? ⟨w.heap.size, 2, none⟩ = some (.int .i64 h.last) ∧ w'.cell? ⟨bs, os + k, none⟩ = some (.int .i64 v) ∧ Below wr.heap.size wr w')) (by kernel_rfl) ?_ (fun hHeld => ?_)
                  · exact ⟨x0, x1, x2, rc, (Below.refl _ _).drew⟩
                  refine wpAnyH_take (i := 0) (oi := { dst := some 52, op := Go.Op.load 24 (Go.Operand.tmp 2), type := 24, pos := "law.go:41", after := #[], guard := none }) (v := ?vv18) rfl (by kernel_rfl) (by kernel_rfl) (by kernel_rfl) (fun _ _ _ h => h) (Or.inl ⟨by rfl, ?hy18⟩) (by assumption) ?rr18
                  case hy18 => intro w hSw; (try dsimp only at hSw); go_simp; all_goals with_reducible rfl
                  try simp only [Act.put, List.setIfInBounds_toArray, List.set_cons_zero, List.set_cons_succ]
                  refine wpAnyH_take (i := 1) (oi := { dst := some 53, op := Go.Op.move (Go.Operand.tmp 1), type := 44, pos := "law.go:41", after := #[], guard := none }) (v := ?vv19) rfl (by kernel_rfl) (by kernel_rfl) (by kernel_rfl) (fun _ _ _ h => h) (Or.inl ⟨by rfl, ?hy19⟩) (by assumption) ?rr19
                  case hy19 => intro w hSw; (try dsimp only at hSw); go_simp; all_goals with_reducible rfl
                  try simp only [Act.put, List.setIfInBounds_toArray, List.set_cons_zero, List.set_cons_succ]
                  refine wpAnyH_take (i := 2) (oi := { dst := some 54, op := Go.Op.move (Go.Operand.tmp 7), type := 3, pos := "law.go:41", after := #[], guard := none }) (v := ?vv20) rfl (by kernel_rfl) (by kernel_rfl) (by kernel_rfl) (fun _ _ _ h => h) (Or.inl ⟨by rfl, ?hy20⟩) (by assumption) ?rr20
                  case hy20 => intro w hSw; (try dsimp only at hSw); go_simp; all_goals with_reducible rfl
                  try simp only [Act.put, List.setIfInBounds_toArray, List.set_cons_zero, List.set_cons_succ]
                  refine wpAnyH_take (i := 3) (oi := { dst := some 55, op := Go.Op.indexAddr 44 (Go.Operand.tmp 53) (Go.Operand.tmp 54), type := 0, pos := "law.go:41", after := #[{ on := 1, ground := Go.Ground.data }, { on := 2, ground := Go.Ground.data }], guard := none }) (v := ?vv21) rfl (by kernel_rfl) (by kernel_rfl) (by kernel_rfl) (fun _ _ _ h => h) (Or.inl ⟨by rfl, ?hy21⟩) (by assumption) ?rr21
                  case hy21 => intro w hSw; (try dsimp only at hSw); go_simp; all_goals with_reducible rfl
                  try simp only [Act.put, List.setIfInBounds_toArray, List.set_cons_zero, List.set_cons_succ]
                  refine wpAnyH_take (i := 4) (oi := { dst := some 56, op := Go.Op.load 3 (Go.Operand.tmp 55), type := 3, pos := "law.go:41", after := #[{ on := 3, ground := Go.Ground.data }], guard := none }) (v := ?vv22) rfl (by kernel_rfl) (by kernel_rfl) (by kernel_rfl) (fun _ _ _ h => h) (Or.inl ⟨by rfl, ?hy22⟩) (by assumption) ?rr22
                  case hy22 => intro w hSw; (try dsimp only at hSw); go_simp; all_goals with_reducible rfl
                  try simp only [Act.put, List.setIfInBounds_toArray, List.set_cons_zero, List.set_cons_succ]
                  refine wpAnyH_ready (rs := [5]) (by kernel_rfl) (by simp) ?_
                  refine AllReadyH.cons (i := 5) (o := { dst := some 57, op := Go.Op.call { callee := Go.Callee.value (Go.Operand.func 33), args := #[Go.Operand.tmp 52, Go.Operand.tmp 56], argTypes := #[24, 3] }, type := 3, pos := "law.go:41", after := #[{ on := 0, ground := Go.Ground.data }, { on := 4, ground := Go.Ground.data }], guard := none }) rfl (fun K hK => ?_) AllReadyH.nil
                  go_simp
                  go_at_call 33
                  refine (rref_any h v A c _).mono ?_
                  rintro e w' ⟨rfl, hb⟩
                  rw [rv]
                  refine hK.out _ _ ?_ (fun hHeld => ?_)
                  · exact ⟨cell_later hb x0, cell_later hb x1, cell_later hb x2, cell_later hb rc, draw_then (Below.refl _ _).drew hb⟩
                  clear hK K
                  try simp only [Act.put, List.setIfInBounds_toArray, List.set_cons_zero, List.set_cons_succ]
                  have hH1 := hHeld
                  clear hHeld hb
                  have hHeld := hH1
                  refine wpAnyH_take (i := 6) (oi := { dst := some 58, op := Go.Op.binOp Go.BinOp.geq 3 (Go.Operand.tmp 57) (Go.Operand.const (Go.Value.int Go.IntKind.i64 0)) 3, type := 4, pos := "law.go:41", after := #[{ on := 5, ground := Go.Ground.data }], guard := none }) (v := ?vv23) rfl (by kernel_rfl) (by kernel_rfl) (by kernel_rfl) (fun _ _ _ h => h) (Or.inl ⟨by rfl, ?hy23⟩) (by assumption) ?rr23
                  case hy23 => intro w hSw; (try dsimp only at hSw); go_simp; all_goals with_reducible rfl
                  try simp only [Act.put, List.setIfInBounds_toArray, List.set_cons_zero, List.set_cons_succ]
                  refine wpAnyH_take (i := 7) (oi := { dst := some 59, op := Go.Op.move (Go.Operand.tmp 58), type := 4, pos := "law.go:41", after := #[{ on := 6, ground := Go.Ground.data }, { on := 5, ground := Go.Ground.chain }], guard := none }) (v := ?vv24) rfl (by kernel_rfl) (by kernel_rfl) (by kernel_rfl) (fun _ _ _ h => h) (Or.inl ⟨by rfl, ?hy24⟩) (by assumption) ?rr24
                  case hy24 => intro w hSw; (try dsimp only at hSw); go_simp; all_goals with_reducible rfl
                  try simp only [Act.put, List.setIfInBounds_toArray, List.set_cons_zero, List.set_cons_succ]
                  refine wpAnyH_take (i := 8) (oi := { dst := some 60, op := Go.Op.move (Go.Operand.tmp 5), type := 44, pos := "law.go:41", after := #[{ on := 7, ground := Go.Ground.guard }], guard := some (7, true) }) (v := ?vv25) rfl (by kernel_rfl) (by kernel_rfl) (by kernel_rfl) (fun _ _ _ h => h) (Or.inl ⟨by rfl, ?hy25⟩) (by assumption) ?rr25
                  case hy25 => intro w hSw; (try dsimp only at hSw); go_simp; all_goals with_reducible rfl
                  try simp only [Act.put, List.setIfInBounds_toArray, List.set_cons_zero, List.set_cons_succ]
                  refine wpAnyH_take (i := 9) (oi := { dst := some 61, op := Go.Op.load 24 (Go.Operand.tmp 2), type := 24, pos := "law.go:41", after := #[{ on := 7, ground := Go.Ground.guard }], guard := some (7, true) }) (v := ?vv26) rfl (by kernel_rfl) (by kernel_rfl) (by kernel_rfl) (fun _ _ _ h => h) (Or.inl ⟨by rfl, ?hy26⟩) (by assumption) ?rr26
                  case hy26 => intro w hSw; (try dsimp only at hSw); go_simp; all_goals with_reducible rfl
                  try simp only [Act.put, List.setIfInBounds_toArray, List.set_cons_zero, List.set_cons_succ]
                  refine wpAnyH_take (i := 10) (oi := { dst := some 62, op := Go.Op.move (Go.Operand.tmp 1), type := 44, pos := "law.go:41", after := #[{ on := 7, ground := Go.Ground.guard }], guard := some (7, true) }) (v := ?vv27) rfl (by kernel_rfl) (by kernel_rfl) (by kernel_rfl) (fun _ _ _ h => h) (Or.inl ⟨by rfl, ?hy27⟩) (by assumption) ?rr27
                  case hy27 => intro w hSw; (try dsimp only at hSw); go_simp; all_goals with_reducible rfl
                  try simp only [Act.put, List.setIfInBounds_toArray, List.set_cons_zero, List.set_cons_succ]
                  refine wpAnyH_take (i := 11) (oi := { dst := some 63, op := Go.Op.move (Go.Operand.tmp 7), type := 3, pos := "law.go:41", after := #[{ on := 7, ground := Go.Ground.guard }], guard := some (7, true) }) (v := ?vv28) rfl (by kernel_rfl) (by kernel_rfl) (by kernel_rfl) (fun _ _ _ h => h) (Or.inl ⟨by rfl, ?hy28⟩) (by assumption) ?rr28
                  case hy28 => intro w hSw; (try dsimp only at hSw); go_simp; all_goals with_reducible rfl
                  try simp only [Act.put, List.setIfInBounds_toArray, List.set_cons_zero, List.set_cons_succ]
                  refine wpAnyH_take (i := 12) (oi := { dst := some 64, op := Go.Op.indexAddr 44 (Go.Operand.tmp 62) (Go.Operand.tmp 63), type := 0, pos := "law.go:41", after := #[{ on := 10, ground := Go.Ground.data }, { on := 11, ground := Go.Ground.data }, { on := 7, ground := Go.Ground.guard }], guard := some (7, true) }) (v := ?vv29) rfl (by kernel_rfl) (by kernel_rfl) (by kernel_rfl) (fun _ _ _ h => h) (Or.inl ⟨by rfl, ?hy29⟩) (by assumption) ?rr29
                  case hy29 => intro w hSw; (try dsimp only at hSw); go_simp; all_goals with_reducible rfl
                  try simp only [Act.put, List.setIfInBounds_toArray, List.set_cons_zero, List.set_cons_succ]
                  refine wpAnyH_take (i := 13) (oi := { dst := some 65, op := Go.Op.load 3 (Go.Operand.tmp 64), type := 3, pos := "law.go:41", after := #[{ on := 12, ground := Go.Ground.data }, { on := 7, ground := Go.Ground.guard }], guard := some (7, true) }) (v := ?vv30) rfl (by kernel_rfl) (by kernel_rfl) (by kernel_rfl) (fun _ _ _ h => h) (Or.inl ⟨by rfl, ?hy30⟩) (by assumption) ?rr30
                  case hy30 => intro w hSw; (try dsimp only at hSw); go_simp; all_goals with_reducible rfl
                  try simp only [Act.put, List.setIfInBounds_toArray, List.set_cons_zero, List.set_cons_succ]
                  refine wpAnyH_ready (rs := [14]) (by kernel_rfl) (by simp) ?_
                  refine AllReadyH.cons (i := 14) (o := { dst := some 66, op := Go.Op.call { callee := Go.Callee.value (Go.Operand.func 33), args := #[Go.Operand.tmp 61, Go.Operand.tmp 65], argTypes := #[24, 3] }, type := 3, pos := "law.go:41", after := #[{ on := 9, ground := Go.Ground.data }, { on := 13, ground := Go.Ground.data }, { on := 7, ground := Go.Ground.chain }, { on := 7, ground := Go.Ground.guard }], guard := some (7, true) }) rfl (fun K hK => ?_) AllReadyH.nil
                  go_simp
                  go_at_call 33
                  refine (rref_any h v A c _).mono ?_
                  rintro e w' ⟨rfl, hb⟩
                  rw [rv]
                  refine hK.out _ _ ?_ (fun hHeld => ?_)
                  · exact ⟨cell_later hb hH1.1, cell_later hb hH1.2.1, cell_later hb hH1.2.2.1, cell_later hb hH1.2.2.2.1, hH1.2.2.2.2.trans (hb.mono hH1.2.2.2.2.size)⟩
                  clear hK K
                  try simp only [Act.put, List.setIfInBounds_toArray, List.set_cons_zero, List.set_cons_succ]
                  have hH2 := hHeld
                  clear hHeld hb
                  have hHeld := hH2
                  refine wpAnyH_ready (rs := [15]) (by kernel_rfl) (by simp) ?_
                  refine AllReadyH.cons (i := 15) (o := { dst := some 67, op := Go.Op.call { callee := Go.Callee.value (Go.Operand.func 41), args := #[Go.Operand.tmp 60, Go.Operand.tmp 66], argTypes := #[44, 3] }, type := 4, pos := "law.go:41", after := #[{ on := 8, ground := Go.Ground.data }, { on := 14, ground := Go.Ground.data }, { on := 14, ground := Go.Ground.chain }, { on := 7, ground := Go.Ground.guard }], guard := some (7, true) }) rfl (fun K hK => ?_) AllReadyH.nil
                  go_simp
                  go_at_call 41
                  refine (in_any (liveL h rs) i A4 c4 _ (HI.out.below ((hH2.2.2.2.2))) (by omega)).mono ?_
                  rintro e w' ⟨rfl, hb⟩
                  rw [hin]
                  refine hK.out _ _ ?_ (fun hHeld => ?_)
                  · exact ⟨cell_later hb hH2.1, cell_later hb hH2.2.1, cell_later hb hH2.2.2.1, cell_later hb hH2.2.2.2.1, hH2.2.2.2.2.trans (hb.mono hH2.2.2.2.2.size)⟩
                  clear hK K
                  try simp only [Act.put, List.setIfInBounds_toArray, List.set_cons_zero, List.set_cons_succ]
                  have hH3 := hHeld
                  clear hHeld hb
                  have hHeld := hH3
                  refine wpAnyH_take (i := 16) (oi := { dst := some 68, op := Go.Op.unOp Go.UnOp.not 4 (Go.Operand.tmp 67), type := 4, pos := "law.go:41", after := #[{ on := 15, ground := Go.Ground.data }, { on := 7, ground := Go.Ground.guard }], guard := some (7, true) }) (v := ?vv31) rfl (by kernel_rfl) (by kernel_rfl) (by kernel_rfl) (fun _ _ _ h => h) (Or.inl ⟨by rfl, ?hy31⟩) (by assumption) ?rr31
                  case hy31 => intro w hSw; (try dsimp only at hSw); go_simp; all_goals with_reducible rfl
                  try simp only [Act.put, List.setIfInBounds_toArray, List.set_cons_zero, List.set_cons_succ]
                  refine wpAnyH_take (i := 17) (oi := { dst := some 69, op := Go.Op.pick (Go.Operand.tmp 59) (Go.Operand.tmp 68) (Go.Operand.const (Go.Value.bool false)), type := 4, pos := "law.go:41", after := #[{ on := 7, ground := Go.Ground.data }, { on := 16, ground := Go.Ground.data }], guard := none }) (v := ?vv32) rfl (by kernel_rfl) (by kernel_rfl) (by kernel_rfl) (fun _ _ _ h => h) (Or.inl ⟨by rfl, ?hy32⟩) (by assumption) ?rr32
                  case hy32 => intro w hSw; (try dsimp only at hSw); go_simp; all_goals with_reducible rfl
                  try simp only [Act.put, List.setIfInBounds_toArray, List.set_cons_zero, List.set_cons_succ]
                  refine wpAnyH_done (by kernel_rfl) ?_ _
                  have hHeldB := hHeld.2.2.2.2
                  go_wp2_with fail
                  go_roundw
                  case rel => exact ⟨k + 1, by omega, by go_num, HW.out.trans (hHeldB.mono HW.out.size)⟩
                  case measure => simp [intOf]; omega
              · clear x0 x1 x2 HRR
                go_wp2_with fail
                go_loopw [8] (fun i wr => ∃ k : Nat, k ≤ (liveL h rs).length ∧ i = .int .i64 k ∧ Below w4.heap.size w4 wr) (fun i _ => (liveL h rs).length - (intOf i).toNat)
                case atStart => exact ⟨0, Nat.zero_le _, rfl, HW.out⟩
                case round =>
                  clear HW HX HO HI
                  obtain ⟨k, hk, rfl, hbw⟩ := hrel
                  rename World => wo
                  have HW := hid hbw
                  have HX := hid (X4.out.later hbw)
                  have HO := hid (O4.out.below hbw)
                  have HI := hid (L5.out.below hbw)
                  have x0 := HX.out.cell 0
                  have x1 := HX.out.cell 1
                  have x2 := HX.out.cell 2
                  simp only [List.getElem?_toArray, List.getElem?_cons_zero, List.getElem?_cons_succ] at x0 x1 x2
                  clear hbw
                  by_cases hlt : k < (liveL h rs).length
                  · obtain ⟨i, hi, hri⟩ := live_at hlt
                    have hin := hri.lt
                    obtain ⟨bl, ol, rfl, hbl, hcl⟩ := HI.out (by omega)
                    have lc := hcl k _ (List.getElem?_eq_getElem hlt)
                    rw [hi] at lc
                    obtain ⟨b, off, rfl, hb, hc⟩ := HO.out (by omega)
                    have hoi := List.getElem?_eq_getElem hin
                    obtain ⟨S, ds, hob, hin2, hsd, -⟩ := hc i _ hoi
                    have hok := may_all HM.out _ (List.getElem_mem hin)
                    obtain ⟨o, ho⟩ : ∃ o, o = h.objs[i] := ⟨_, rfl⟩
                    rw [← ho] at hob hin2 hsd hok hoi
                    have hol := (kind_len (ob_kind hok)).1
                    obtain ⟨e0, e1, e2, e3, e4, e5⟩ := hob
                    obtain ⟨hcls, hslv⟩ := ob_vals hok
                    have hne : decide (refI h.objs.length o.cls ∈ liveL h rs) = true := decide_eq_true (live_in hcls (.step i o _ hri hoi (by simp) hcls))
                    have HSV : Hid (∀ v ∈ o.slots, refB h.objs.length v = true → refI h.objs.length v ∈ liveL h rs) := fun v hv hr => live_in hr (.step i o v hri hoi (List.mem_cons_of_mem _ hv) hr)
                    have HIN2 := hid hin2
                    have hprev : Hid (∀ m, k = m + 1 → ∃ x : Int, x < i ∧ wo.cell? ⟨bl, ol + m, none⟩ = some (.int .i64 x)) := by
                      intro m hm
                      subst hm
                      exact ⟨(liveL h rs)[m], by rw [← hi]; exact live_lt hlt, hcl m _ (List.getElem?_eq_getElem (by omega))⟩
                    clear hcl hc hin2 hok hoi ho hri hcls hslv
                    have hclsx : ∃ y, y = refI h.objs.length o.cls := ⟨_, rfl⟩
                    obtain ⟨y, hy⟩ := hclsx
                    rw [← hy] at hne
                    have rv := hy.symm
                    clear hy
                    have g1 : decide (h.objs.length ≤ i) = false := decide_eq_false (by omega)
                    have g2 : decide ((h.objs.length : Int) ≤ (i : Int)) = false := decide_eq_false (by omega)
                    have g3 : ¬ h.objs.length ≤ i := by omega
                    cases hk0 : k with
                    | zero =>
                      subst hk0
                      rw [Nat.add_zero] at lc
                      go_wp2_with fail
                      refine wp_region_held_drew (S := (fun w' => w'.cell? ⟨w.heap.size, 0, none⟩ = some (.slice (some ⟨b, off, none⟩) h.objs.length c) ∧ w'.cell? ⟨w.heap.size, 1, none⟩ = some (.int .i64 h.cap) ∧ w'.cell? ⟨w.heap.size, 2, none⟩ = some (.int .i64 h.last) ∧ w'.cell? ⟨bl, ol, none⟩ = some (.int .i64 i) ∧ w'.cell? ⟨b, off + i * 6, none⟩ = some (.int .i64 o.cls) ∧ Below wo.heap.size wo w')) (by kernel_rfl) ?_ (fun hHeld => ?_)
                      · exact ⟨x0, x1, x2, lc, e0, (Below.refl _ _).drew⟩
                      refine wpAnyH_take (i := 0) (oi := { dst := some 76, op := Go.Op.move (Go.Operand.tmp 5), type := 44, pos := "law.go:46", after := #[], guard := none }) (v := ?vv33) rfl (by kernel_rfl) (by kernel_rfl) (by kernel_rfl) (fun _ _ _ h => h) (Or.inl ⟨by rfl, ?hy33⟩) (by assumption) ?rr33
                      case hy33 => intro w hSw; (try dsimp only at hSw); go_simp; all_goals with_reducible rfl
                      try simp only [Act.put, List.setIfInBounds_toArray, List.set_cons_zero, List.set_cons_succ]
                      refine wpAnyH_take (i := 1) (oi := { dst := some 77, op := Go.Op.move (Go.Operand.tmp 8), type := 3, pos := "law.go:46", after := #[], guard := none }) (v := ?vv34) rfl (by kernel_rfl) (by kernel_rfl) (by kernel_rfl) (fun _ _ _ h => h) (Or.inl ⟨by rfl, ?hy34⟩) (by assumption) ?rr34
                      case hy34 => intro w hSw; (try dsimp only at hSw); go_simp; all_goals with_reducible rfl
                      try simp only [Act.put, List.setIfInBounds_toArray, List.set_cons_zero, List.set_cons_succ]
                      refine wpAnyH_take (i := 2) (oi := { dst := some 78, op := Go.Op.indexAddr 44 (Go.Operand.tmp 76) (Go.Operand.tmp 77), type := 0, pos := "law.go:46", after := #[{ on := 0, ground := Go.Ground.data }, { on := 1, ground := Go.Ground.data }], guard := none }) (v := ?vv35) rfl (by kernel_rfl) (by kernel_rfl) (by kernel_rfl) (fun _ _ _ h => h) (Or.inl ⟨by rfl, ?hy35⟩) (by assumption) ?rr35
                      case hy35 => intro w hSw; (try dsimp only at hSw); go_simp; all_goals with_reducible rfl
                      try simp only [Act.put, List.setIfInBounds_toArray, List.set_cons_zero, List.set_cons_succ]
                      refine wpAnyH_take (i := 3) (oi := { dst := some 79, op := Go.Op.load 3 (Go.Operand.tmp 78), type := 3, pos := "law.go:46", after := #[{ on := 2, ground := Go.Ground.data }], guard := none }) (v := ?vv36) rfl (by kernel_rfl) (by kernel_rfl) (by kernel_rfl) (fun _ _ _ h => h) (Or.inl ⟨by rfl, ?hy36⟩) (by assumption) ?rr36
                      case hy36 => intro w hSw; (try dsimp only at hSw); go_simp; all_goals with_reducible rfl
                      try simp only [Act.put, List.setIfInBounds_toArray, List.set_cons_zero, List.set_cons_succ]
                      refine wpAnyH_take (i := 4) (oi := { dst := some 80, op := Go.Op.binOp Go.BinOp.lss 3 (Go.Operand.tmp 79) (Go.Operand.const (Go.Value.int Go.IntKind.i64 0)) 3, type := 4, pos := "law.go:46", after := #[{ on := 3, ground := Go.Ground.data }], guard := none }) (v := ?vv37) rfl (by kernel_rfl) (by kernel_rfl) (by kernel_rfl) (fun _ _ _ h => h) (Or.inl ⟨by rfl, ?hy37⟩) (by assumption) ?rr37
                      case hy37 => intro w hSw; (try dsimp only at hSw); go_simp; all_goals with_reducible rfl
                      try simp only [Act.put, List.setIfInBounds_toArray, List.set_cons_zero, List.set_cons_succ]
                      refine wpAnyH_take (i := 5) (oi := { dst := some 81, op := Go.Op.move (Go.Operand.tmp 80), type := 4, pos := "law.go:46", after := #[{ on := 4, ground := Go.Ground.data }], guard := none }) (v := ?vv38) rfl (by kernel_rfl) (by kernel_rfl) (by kernel_rfl) (fun _ _ _ h => h) (Or.inl ⟨by rfl, ?hy38⟩) (by assumption) ?rr38
                      case hy38 => intro w hSw; (try dsimp only at hSw); go_simp; all_goals with_reducible rfl
                      try simp only [Act.put, List.setIfInBounds_toArray, List.set_cons_zero, List.set_cons_succ]
                      refine wpAnyH_take (i := 6) (oi := { dst := some 82, op := Go.Op.move (Go.Operand.tmp 5), type := 44, pos := "law.go:46", after := #[{ on := 5, ground := Go.Ground.guard }], guard := some (5, false) }) (v := ?vv39) rfl (by kernel_rfl) (by kernel_rfl) (by kernel_rfl) (fun _ _ _ h => h) (Or.inl ⟨by rfl, ?hy39⟩) (by assumption) ?rr39
                      case hy39 => intro w hSw; (try dsimp only at hSw); go_simp; all_goals with_reducible rfl
                      try simp only [Act.put, List.setIfInBounds_toArray, List.set_cons_zero, List.set_cons_succ]
                      refine wpAnyH_take (i := 7) (oi := { dst := some 83, op := Go.Op.move (Go.Operand.tmp 8), type := 3, pos := "law.go:46", after := #[{ on := 5, ground := Go.Ground.guard }], guard := some (5, false) }) (v := ?vv40) rfl (by kernel_rfl) (by kernel_rfl) (by kernel_rfl) (fun _ _ _ h => h) (Or.inl ⟨by rfl, ?hy40⟩) (by assumption) ?rr40
                      case hy40 => intro w hSw; (try dsimp only at hSw); go_simp; all_goals with_reducible rfl
                      try simp only [Act.put, List.setIfInBounds_toArray, List.set_cons_zero, List.set_cons_succ]
                      refine wpAnyH_take (i := 8) (oi := { dst := some 84, op := Go.Op.indexAddr 44 (Go.Operand.tmp 82) (Go.Operand.tmp 83), type := 0, pos := "law.go:46", after := #[{ on := 6, ground := Go.Ground.data }, { on := 7, ground := Go.Ground.data }, { on := 5, ground := Go.Ground.guard }], guard := some (5, false) }) (v := ?vv41) rfl (by kernel_rfl) (by kernel_rfl) (by kernel_rfl) (fun _ _ _ h => h) (Or.inl ⟨by rfl, ?hy41⟩) (by assumption) ?rr41
                      case hy41 => intro w hSw; (try dsimp only at hSw); go_simp; all_goals with_reducible rfl
                      try simp only [Act.put, List.setIfInBounds_toArray, List.set_cons_zero, List.set_cons_succ]
                      refine wpAnyH_take (i := 9) (oi := { dst := some 85, op := Go.Op.load 3 (Go.Operand.tmp 84), type := 3, pos := "law.go:46", after := #[{ on := 8, ground := Go.Ground.data }, { on := 5, ground := Go.Ground.guard }], guard := some (5, false) }) (v := ?vv42) rfl (by kernel_rfl) (by kernel_rfl) (by kernel_rfl) (fun _ _ _ h => h) (Or.inl ⟨by rfl, ?hy42⟩) (by assumption) ?rr42
                      case hy42 => intro w hSw; (try dsimp only at hSw); go_simp; all_goals with_reducible rfl
                      try simp only [Act.put, List.setIfInBounds_toArray, List.set_cons_zero, List.set_cons_succ]
                      refine wpAnyH_take (i := 10) (oi := { dst := some 86, op := Go.Op.fieldAddr 24 (Go.Operand.tmp 2) 0, type := 0, pos := "law.go:46", after := #[{ on := 5, ground := Go.Ground.guard }], guard := some (5, false) }) (v := ?vv43) rfl (by kernel_rfl) (by kernel_rfl) (by kernel_rfl) (fun _ _ _ h => h) (Or.inl ⟨by rfl, ?hy43⟩) (by assumption) ?rr43
                      case hy43 => intro w hSw; (try dsimp only at hSw); go_simp; all_goals with_reducible rfl
                      try simp only [Act.put, List.setIfInBounds_toArray, List.set_cons_zero, List.set_cons_succ]
                      refine wpAnyH_take (i := 11) (oi := { dst := some 87, op := Go.Op.load 22 (Go.Operand.tmp 86), type := 22, pos := "law.go:46", after := #[{ on := 10, ground := Go.Ground.data }, { on := 5, ground := Go.Ground.guard }], guard := some (5, false) }) (v := ?vv44) rfl (by kernel_rfl) (by kernel_rfl) (by kernel_rfl) (fun _ _ _ h => h) (Or.inl ⟨by rfl, ?hy44⟩) (by assumption) ?rr44
                      case hy44 => intro w hSw; (try dsimp only at hSw); go_simp; all_goals with_reducible rfl
                      try simp only [Act.put, List.setIfInBounds_toArray, List.set_cons_zero, List.set_cons_succ]
                      refine wpAnyH_take (i := 12) (oi := { dst := some 88, op := Go.Op.call { callee := Go.Callee.builtin Go.Builtin.len, args := #[Go.Operand.tmp 87], argTypes := #[22] }, type := 3, pos := "law.go:46", after := #[{ on := 11, ground := Go.Ground.data }, { on := 5, ground := Go.Ground.guard }], guard := some (5, false) }) (v := ?vv45) rfl (by kernel_rfl) (by kernel_rfl) (by kernel_rfl) (fun _ _ _ h => h) (Or.inl ⟨by rfl, ?hy45⟩) (by assumption) ?rr45
                      case hy45 => intro w hSw; (try dsimp only at hSw); go_simp; all_goals with_reducible rfl
                      try simp only [Act.put, List.setIfInBounds_toArray, List.set_cons_zero, List.set_cons_succ]
                      refine wpAnyH_take (i := 13) (oi := { dst := some 89, op := Go.Op.binOp Go.BinOp.geq 3 (Go.Operand.tmp 85) (Go.Operand.tmp 88) 3, type := 4, pos := "law.go:46", after := #[{ on := 9, ground := Go.Ground.data }, { on := 12, ground := Go.Ground.data }, { on := 5, ground := Go.Ground.guard }], guard := some (5, false) }) (v := ?vv46) rfl (by kernel_rfl) (by kernel_rfl) (by kernel_rfl) (fun _ _ _ h => h) (Or.inl ⟨by rfl, ?hy46⟩) (by assumption) ?rr46
                      case hy46 => intro w hSw; (try dsimp only at hSw); go_simp; all_goals with_reducible rfl
                      try simp only [Act.put, List.setIfInBounds_toArray, List.set_cons_zero, List.set_cons_succ]
                      refine wpAnyH_take (i := 14) (oi := { dst := some 90, op := Go.Op.pick (Go.Operand.tmp 81) (Go.Operand.const (Go.Value.bool true)) (Go.Operand.tmp 89), type := 4, pos := "law.go:46", after := #[{ on := 5, ground := Go.Ground.data }, { on := 13, ground := Go.Ground.data }], guard := none }) (v := ?vv47) rfl (by kernel_rfl) (by kernel_rfl) (by kernel_rfl) (fun _ _ _ h => h) (Or.inl ⟨by rfl, ?hy47⟩) (by assumption) ?rr47
                      case hy47 => intro w hSw; (try dsimp only at hSw); go_simp; all_goals with_reducible rfl
                      try simp only [Act.put, List.setIfInBounds_toArray, List.set_cons_zero, List.set_cons_succ]
                      refine wpAnyH_take (i := 15) (oi := { dst := some 91, op := Go.Op.move (Go.Operand.tmp 90), type := 4, pos := "law.go:46", after := #[{ on := 14, ground := Go.Ground.data }, { on := 5, ground := Go.Ground.chain }], guard := none }) (v := ?vv48) rfl (by kernel_rfl) (by kernel_rfl) (by kernel_rfl) (fun _ _ _ h => h) (Or.inl ⟨by rfl, ?hy48⟩) (by assumption) ?rr48
                      case hy48 => intro w hSw; (try dsimp only at hSw); go_simp; all_goals with_reducible rfl
                      try simp only [Act.put, List.setIfInBounds_toArray, List.set_cons_zero, List.set_cons_succ]
                      refine wpAnyH_take (i := 16) (oi := { dst := some 92, op := Go.Op.move (Go.Operand.tmp 8), type := 3, pos := "law.go:46", after := #[{ on := 15, ground := Go.Ground.guard }], guard := some (15, false) }) (v := ?vv49) rfl (by kernel_rfl) (by kernel_rfl) (by kernel_rfl) (fun _ _ _ h => h) (Or.inl ⟨by rfl, ?hy49⟩) (by assumption) ?rr49
                      case hy49 => intro w hSw; (try dsimp only at hSw); go_simp; all_goals with_reducible rfl
                      try simp only [Act.put, List.setIfInBounds_toArray, List.set_cons_zero, List.set_cons_succ]
                      refine wpAnyH_take (i := 17) (oi := { dst := some 93, op := Go.Op.binOp Go.BinOp.gtr 3 (Go.Operand.tmp 92) (Go.Operand.const (Go.Value.int Go.IntKind.i64 0)) 3, type := 4, pos := "law.go:46", after := #[{ on := 16, ground := Go.Ground.data }, { on := 15, ground := Go.Ground.guard }], guard := some (15, false) }) (v := ?vv50) rfl (by kernel_rfl) (by kernel_rfl) (by kernel_rfl) (fun _ _ _ h => h) (Or.inl ⟨by rfl, ?hy50⟩) (by assumption) ?rr50
                      case hy50 => intro w hSw; (try dsimp only at hSw); go_simp; all_goals with_reducible rfl
                      try simp only [Act.put, List.setIfInBounds_toArray, List.set_cons_zero, List.set_cons_succ]
                      refine wpAnyH_take (i := 18) (oi := { dst := some 94, op := Go.Op.move (Go.Operand.tmp 93), type := 4, pos := "law.go:46", after := #[{ on := 17, ground := Go.Ground.data }, { on := 15, ground := Go.Ground.chain }, { on := 15, ground := Go.Ground.guard }], guard := some (15, false) }) (v := ?vv51) rfl (by kernel_rfl) (by kernel_rfl) (by kernel_rfl) (fun _ _ _ h => h) (Or.inl ⟨by rfl, ?hy51⟩) (by assumption) ?rr51
                      case hy51 => intro w hSw; (try dsimp only at hSw); go_simp; all_goals with_reducible rfl
                      try simp only [Act.put, List.setIfInBounds_toArray, List.set_cons_zero, List.set_cons_succ]
                      refine wpAnyH_take (i := 19) (oi := { dst := some 95, op := Go.Op.move (Go.Operand.tmp 5), type := 44, pos := "law.go:46", after := #[{ on := 18, ground := Go.Ground.guard }], guard := some (18, true) }) (v := undef) rfl (by kernel_rfl) (by kernel_rfl) (by kernel_rfl) (fun _ _ _ h => h) (Or.inr ⟨by rfl, rfl⟩) (by assumption) ?_
                      try simp only [Act.put, List.setIfInBounds_toArray, List.set_cons_zero, List.set_cons_succ]
                      refine wpAnyH_take (i := 20) (oi := { dst := some 96, op := Go.Op.move (Go.Operand.tmp 8), type := 3, pos := "law.go:46", after := #[{ on := 18, ground := Go.Ground.guard }], guard := some (18, true) }) (v := undef) rfl (by kernel_rfl) (by kernel_rfl) (by kernel_rfl) (fun _ _ _ h => h) (Or.inr ⟨by rfl, rfl⟩) (by assumption) ?_
                      try simp only [Act.put, List.setIfInBounds_toArray, List.set_cons_zero, List.set_cons_succ]
                      refine wpAnyH_take (i := 21) (oi := { dst := some 97, op := Go.Op.indexAddr 44 (Go.Operand.tmp 95) (Go.Operand.tmp 96), type := 0, pos := "law.go:46", after := #[{ on := 19, ground := Go.Ground.data }, { on := 20, ground := Go.Ground.data }, { on := 18, ground := Go.Ground.guard }], guard := some (18, true) }) (v := undef) rfl (by kernel_rfl) (by kernel_rfl) (by kernel_rfl) (fun _ _ _ h => h) (Or.inr ⟨by rfl, rfl⟩) (by assumption) ?_
                      try simp only [Act.put, List.setIfInBounds_toArray, List.set_cons_zero, List.set_cons_succ]
                      refine wpAnyH_take (i := 22) (oi := { dst := some 98, op := Go.Op.load 3 (Go.Operand.tmp 97), type := 3, pos := "law.go:46", after := #[{ on := 21, ground := Go.Ground.data }, { on := 18, ground := Go.Ground.guard }], guard := some (18, true) }) (v := undef) rfl (by kernel_rfl) (by kernel_rfl) (by kernel_rfl) (fun _ _ _ h => h) (Or.inr ⟨by rfl, rfl⟩) (by assumption) ?_
                      try simp only [Act.put, List.setIfInBounds_toArray, List.set_cons_zero, List.set_cons_succ]
                      refine wpAnyH_take (i := 23) (oi := { dst := some 99, op := Go.Op.move (Go.Operand.tmp 5), type := 44, pos := "law.go:46", after := #[{ on := 18, ground := Go.Ground.guard }], guard := some (18, true) }) (v := undef) rfl (by kernel_rfl) (by kernel_rfl) (by kernel_rfl) (fun _ _ _ h => h) (Or.inr ⟨by rfl, rfl⟩) (by assumption) ?_
                      try simp only [Act.put, List.setIfInBounds_toArray, List.set_cons_zero, List.set_cons_succ]
                      refine wpAnyH_take (i := 24) (oi := { dst := some 100, op := Go.Op.move (Go.Operand.tmp 8), type := 3, pos := "law.go:46", after := #[{ on := 18, ground := Go.Ground.guard }], guard := some (18, true) }) (v := undef) rfl (by kernel_rfl) (by kernel_rfl) (by kernel_rfl) (fun _ _ _ h => h) (Or.inr ⟨by rfl, rfl⟩) (by assumption) ?_
                      try simp only [Act.put, List.setIfInBounds_toArray, List.set_cons_zero, List.set_cons_succ]
                      refine wpAnyH_take (i := 25) (oi := { dst := some 101, op := Go.Op.binOp Go.BinOp.sub 3 (Go.Operand.tmp 100) (Go.Operand.const (Go.Value.int Go.IntKind.i64 1)) 3, type := 3, pos := "law.go:46", after := #[{ on := 24, ground := Go.Ground.data }, { on := 18, ground := Go.Ground.guard }], guard := some (18, true) }) (v := undef) rfl (by kernel_rfl) (by kernel_rfl) (by kernel_rfl) (fun _ _ _ h => h) (Or.inr ⟨by rfl, rfl⟩) (by assumption) ?_
                      try simp only [Act.put, List.setIfInBounds_toArray, List.set_cons_zero, List.set_cons_succ]
                      refine wpAnyH_take (i := 26) (oi := { dst := some 102, op := Go.Op.indexAddr 44 (Go.Operand.tmp 99) (Go.Operand.tmp 101), type := 0, pos := "law.go:46", after := #[{ on := 23, ground := Go.Ground.data }, { on := 25, ground := Go.Ground.data }, { on := 18, ground := Go.Ground.guard }], guard := some (18, true) }) (v := undef) rfl (by kernel_rfl) (by kernel_rfl) (by kernel_rfl) (fun _ _ _ h => h) (Or.inr ⟨by rfl, rfl⟩) (by assumption) ?_
                      try simp only [Act.put, List.setIfInBounds_toArray, List.set_cons_zero, List.set_cons_succ]
                      refine wpAnyH_take (i := 27) (oi := { dst := some 103, op := Go.Op.load 3 (Go.Operand.tmp 102), type := 3, pos := "law.go:46", after := #[{ on := 26, ground := Go.Ground.data }, { on := 18, ground := Go.Ground.guard }], guard := some (18, true) }) (v := undef) rfl (by kernel_rfl) (by kernel_rfl) (by kernel_rfl) (fun _ _ _ h => h) (Or.inr ⟨by rfl, rfl⟩) (by assumption) ?_
                      try simp only [Act.put, List.setIfInBounds_toArray, List.set_cons_zero, List.set_cons_succ]
                      refine wpAnyH_take (i := 28) (oi := { dst := some 104, op := Go.Op.binOp Go.BinOp.leq 3 (Go.Operand.tmp 98) (Go.Operand.tmp 103) 3, type := 4, pos := "law.go:46", after := #[{ on := 22, ground := Go.Ground.data }, { on := 27, ground := Go.Ground.data }, { on := 18, ground := Go.Ground.guard }], guard := some (18, true) }) (v := undef) rfl (by kernel_rfl) (by kernel_rfl) (by kernel_rfl) (fun _ _ _ h => h) (Or.inr ⟨by rfl, rfl⟩) (by assumption) ?_
                      try simp only [Act.put, List.setIfInBounds_toArray, List.set_cons_zero, List.set_cons_succ]
                      refine wpAnyH_take (i := 29) (oi := { dst := some 105, op := Go.Op.pick (Go.Operand.tmp 94) (Go.Operand.tmp 104) (Go.Operand.const (Go.Value.bool false)), type := 4, pos := "law.go:46", after := #[{ on := 18, ground := Go.Ground.data }, { on := 28, ground := Go.Ground.data }, { on := 15, ground := Go.Ground.guard }], guard := some (15, false) }) (v := ?vv62) rfl (by kernel_rfl) (by kernel_rfl) (by kernel_rfl) (fun _ _ _ h => h) (Or.inl ⟨by rfl, ?hy62⟩) (by assumption) ?rr62
                      case hy62 => intro w hSw; (try dsimp only at hSw); go_simp; all_goals with_reducible rfl
                      try simp only [Act.put, List.setIfInBounds_toArray, List.set_cons_zero, List.set_cons_succ]
                      refine wpAnyH_take (i := 30) (oi := { dst := some 106, op := Go.Op.pick (Go.Operand.tmp 91) (Go.Operand.const (Go.Value.bool true)) (Go.Operand.tmp 105), type := 4, pos := "law.go:46", after := #[{ on := 15, ground := Go.Ground.data }, { on := 29, ground := Go.Ground.data }], guard := none }) (v := ?vv63) rfl (by kernel_rfl) (by kernel_rfl) (by kernel_rfl) (fun _ _ _ h => h) (Or.inl ⟨by rfl, ?hy63⟩) (by assumption) ?rr63
                      case hy63 => intro w hSw; (try dsimp only at hSw); go_simp; all_goals with_reducible rfl
                      try simp only [Act.put, List.setIfInBounds_toArray, List.set_cons_zero, List.set_cons_succ]
                      refine wpAnyH_take (i := 31) (oi := { dst := some 107, op := Go.Op.move (Go.Operand.tmp 106), type := 4, pos := "law.go:46", after := #[{ on := 30, ground := Go.Ground.data }, { on := 18, ground := Go.Ground.chain }], guard := none }) (v := ?vv64) rfl (by kernel_rfl) (by kernel_rfl) (by kernel_rfl) (fun _ _ _ h => h) (Or.inl ⟨by rfl, ?hy64⟩) (by assumption) ?rr64
                      case hy64 => intro w hSw; (try dsimp only at hSw); go_simp; all_goals with_reducible rfl
                      try simp only [Act.put, List.setIfInBounds_toArray, List.set_cons_zero, List.set_cons_succ]
                      refine wpAnyH_take (i := 32) (oi := { dst := some 108, op := Go.Op.move (Go.Operand.tmp 5), type := 44, pos := "law.go:46", after := #[{ on := 31, ground := Go.Ground.guard }], guard := some (31, false) }) (v := ?vv65) rfl (by kernel_rfl) (by kernel_rfl) (by kernel_rfl) (fun _ _ _ h => h) (Or.inl ⟨by rfl, ?hy65⟩) (by assumption) ?rr65
                      case hy65 => intro w hSw; (try dsimp only at hSw); go_simp; all_goals with_reducible rfl
                      try simp only [Act.put, List.setIfInBounds_toArray, List.set_cons_zero, List.set_cons_succ]
                      refine wpAnyH_take (i := 33) (oi := { dst := some 109, op := Go.Op.load 24 (Go.Operand.tmp 2), type := 24, pos := "law.go:46", after := #[{ on := 31, ground := Go.Ground.guard }], guard := some (31, false) }) (v := ?vv66) rfl (by kernel_rfl) (by kernel_rfl) (by kernel_rfl) (fun _ _ _ h => h) (Or.inl ⟨by rfl, ?hy66⟩) (by assumption) ?rr66
                      case hy66 => intro w hSw; (try dsimp only at hSw); go_simp; all_goals with_reducible rfl
                      try simp only [Act.put, List.setIfInBounds_toArray, List.set_cons_zero, List.set_cons_succ]
                      refine wpAnyH_take (i := 34) (oi := { dst := some 110, op := Go.Op.fieldAddr 24 (Go.Operand.tmp 2) 0, type := 0, pos := "law.go:46", after := #[{ on := 31, ground := Go.Ground.guard }], guard := some (31, false) }) (v := ?vv67) rfl (by kernel_rfl) (by kernel_rfl) (by kernel_rfl) (fun _ _ _ h => h) (Or.inl ⟨by rfl, ?hy67⟩) (by assumption) ?rr67
                      case hy67 => intro w hSw; (try dsimp only at hSw); go_simp; all_goals with_reducible rfl
                      try simp only [Act.put, List.setIfInBounds_toArray, List.set_cons_zero, List.set_cons_succ]
                      refine wpAnyH_take (i := 35) (oi := { dst := some 111, op := Go.Op.load 22 (Go.Operand.tmp 110), type := 22, pos := "law.go:46", after := #[{ on := 34, ground := Go.Ground.data }, { on := 31, ground := Go.Ground.guard }], guard := some (31, false) }) (v := ?vv68) rfl (by kernel_rfl) (by kernel_rfl) (by kernel_rfl) (fun _ _ _ h => h) (Or.inl ⟨by rfl, ?hy68⟩) (by assumption) ?rr68
                      case hy68 => intro w hSw; (try dsimp only at hSw); go_simp; all_goals with_reducible rfl
                      try simp only [Act.put, List.setIfInBounds_toArray, List.set_cons_zero, List.set_cons_succ]
                      refine wpAnyH_take (i := 36) (oi := { dst := some 112, op := Go.Op.move (Go.Operand.tmp 5), type := 44, pos := "law.go:46", after := #[{ on := 31, ground := Go.Ground.guard }], guard := some (31, false) }) (v := ?vv69) rfl (by kernel_rfl) (by kernel_rfl) (by kernel_rfl) (fun _ _ _ h => h) (Or.inl ⟨by rfl, ?hy69⟩) (by assumption) ?rr69
                      case hy69 => intro w hSw; (try dsimp only at hSw); go_simp; all_goals with_reducible rfl
                      try simp only [Act.put, List.setIfInBounds_toArray, List.set_cons_zero, List.set_cons_succ]
                      refine wpAnyH_take (i := 37) (oi := { dst := some 113, op := Go.Op.move (Go.Operand.tmp 8), type := 3, pos := "law.go:46", after := #[{ on := 31, ground := Go.Ground.guard }], guard := some (31, false) }) (v := ?vv70) rfl (by kernel_rfl) (by kernel_rfl) (by kernel_rfl) (fun _ _ _ h => h) (Or.inl ⟨by rfl, ?hy70⟩) (by assumption) ?rr70
                      case hy70 => intro w hSw; (try dsimp only at hSw); go_simp; all_goals with_reducible rfl
                      try simp only [Act.put, List.setIfInBounds_toArray, List.set_cons_zero, List.set_cons_succ]
                      refine wpAnyH_take (i := 38) (oi := { dst := some 114, op := Go.Op.indexAddr 44 (Go.Operand.tmp 112) (Go.Operand.tmp 113), type := 0, pos := "law.go:46", after := #[{ on := 36, ground := Go.Ground.data }, { on := 37, ground := Go.Ground.data }, { on := 31, ground := Go.Ground.guard }], guard := some (31, false) }) (v := ?vv71) rfl (by kernel_rfl) (by kernel_rfl) (by kernel_rfl) (fun _ _ _ h => h) (Or.inl ⟨by rfl, ?hy71⟩) (by assumption) ?rr71
                      case hy71 => intro w hSw; (try dsimp only at hSw); go_simp; all_goals with_reducible rfl
                      try simp only [Act.put, List.setIfInBounds_toArray, List.set_cons_zero, List.set_cons_succ]
                      refine wpAnyH_take (i := 39) (oi := { dst := some 115, op := Go.Op.load 3 (Go.Operand.tmp 114), type := 3, pos := "law.go:46", after := #[{ on := 38, ground := Go.Ground.data }, { on := 31, ground := Go.Ground.guard }], guard := some (31, false) }) (v := ?vv72) rfl (by kernel_rfl) (by kernel_rfl) (by kernel_rfl) (fun _ _ _ h => h) (Or.inl ⟨by rfl, ?hy72⟩) (by assumption) ?rr72
                      case hy72 => intro w hSw; (try dsimp only at hSw); go_simp; all_goals with_reducible rfl
                      try simp only [Act.put, List.setIfInBounds_toArray, List.set_cons_zero, List.set_cons_succ]
                      refine wpAnyH_take (i := 40) (oi := { dst := some 116, op := Go.Op.indexAddr 22 (Go.Operand.tmp 111) (Go.Operand.tmp 115), type := 0, pos := "law.go:46", after := #[{ on := 35, ground := Go.Ground.data }, { on := 39, ground := Go.Ground.data }, { on := 31, ground := Go.Ground.guard }], guard := some (31, false) }) (v := ?vv73) rfl (by kernel_rfl) (by kernel_rfl) (by kernel_rfl) (fun _ _ _ h => h) (Or.inl ⟨by rfl, ?hy73⟩) (by assumption) ?rr73
                      case hy73 => intro w hSw; (try dsimp only at hSw); go_simp; all_goals with_reducible rfl
                      try simp only [Act.put, List.setIfInBounds_toArray, List.set_cons_zero, List.set_cons_succ]
                      refine wpAnyH_take (i := 41) (oi := { dst := some 117, op := Go.Op.fieldAddr 46 (Go.Operand.tmp 116) 0, type := 0, pos := "law.go:46", after := #[{ on := 40, ground := Go.Ground.data }, { on := 31, ground := Go.Ground.guard }], guard := some (31, false) }) (v := ?vv74) rfl (by kernel_rfl) (by kernel_rfl) (by kernel_rfl) (fun _ _ _ h => h) (Or.inl ⟨by rfl, ?hy74⟩) (by assumption) ?rr74
                      case hy74 => intro w hSw; (try dsimp only at hSw); go_simp; all_goals with_reducible rfl
                      try simp only [Act.put, List.setIfInBounds_toArray, List.set_cons_zero, List.set_cons_succ]
                      refine wpAnyH_take (i := 42) (oi := { dst := some 118, op := Go.Op.load 3 (Go.Operand.tmp 117), type := 3, pos := "law.go:46", after := #[{ on := 41, ground := Go.Ground.data }, { on := 31, ground := Go.Ground.guard }], guard := some (31, false) }) (v := ?vv75) rfl (by kernel_rfl) (by kernel_rfl) (by kernel_rfl) (fun _ _ _ h => h) (Or.inl ⟨by rfl, ?hy75⟩) (by assumption) ?rr75
                      case hy75 => intro w hSw; (try dsimp only at hSw); go_simp; all_goals with_reducible rfl
                      try simp only [Act.put, List.setIfInBounds_toArray, List.set_cons_zero, List.set_cons_succ]
                      refine wpAnyH_ready (rs := [43]) (by kernel_rfl) (by simp) ?_
                      refine AllReadyH.cons (i := 43) (o := { dst := some 119, op := Go.Op.call { callee := Go.Callee.value (Go.Operand.func 33), args := #[Go.Operand.tmp 109, Go.Operand.tmp 118], argTypes := #[24, 3] }, type := 3, pos := "law.go:46", after := #[{ on := 33, ground := Go.Ground.data }, { on := 42, ground := Go.Ground.data }, { on := 31, ground := Go.Ground.chain }, { on := 31, ground := Go.Ground.guard }], guard := some (31, false) }) rfl (fun K hK => ?_) AllReadyH.nil
                      go_simp
                      go_at_call 33
                      refine (rref_any h o.cls (some ⟨b, off, none⟩) c _).mono ?_
                      rintro e w' ⟨rfl, hb⟩
                      rw [rv]
                      refine hK.out _ _ ?_ (fun hHeld => ?_)
                      · exact ⟨cell_later hb x0, cell_later hb x1, cell_later hb x2, cell_later hb lc, cell_later hb e0, draw_then (Below.refl _ _).drew hb⟩
                      clear hK K
                      try simp only [Act.put, List.setIfInBounds_toArray, List.set_cons_zero, List.set_cons_succ]
                      have hH1 := hHeld
                      clear hHeld hb
                      have hHeld := hH1
                      refine wpAnyH_ready (rs := [44]) (by kernel_rfl) (by simp) ?_
                      refine AllReadyH.cons (i := 44) (o := { dst := some 120, op := Go.Op.call { callee := Go.Callee.value (Go.Operand.func 41), args := #[Go.Operand.tmp 108, Go.Operand.tmp 119], argTypes := #[44, 3] }, type := 4, pos := "law.go:46", after := #[{ on := 32, ground := Go.Ground.data }, { on := 43, ground := Go.Ground.data }, { on := 43, ground := Go.Ground.chain }, { on := 31, ground := Go.Ground.guard }], guard := some (31, false) }) rfl (fun K hK => ?_) AllReadyH.nil
                      go_simp
                      go_at_call 41
                      refine (in_any (liveL h rs) y (some ⟨bl, ol, none⟩) c4 _ (HI.out.below ((hH1.2.2.2.2.2))) (by omega)).mono ?_
                      rintro e w' ⟨rfl, hb⟩
                      rw [hne]
                      refine hK.out _ _ ?_ (fun hHeld => ?_)
                      · exact ⟨cell_later hb hH1.1, cell_later hb hH1.2.1, cell_later hb hH1.2.2.1, cell_later hb hH1.2.2.2.1, cell_later hb hH1.2.2.2.2.1, hH1.2.2.2.2.2.trans (hb.mono hH1.2.2.2.2.2.size)⟩
                      clear hK K
                      try simp only [Act.put, List.setIfInBounds_toArray, List.set_cons_zero, List.set_cons_succ]
                      have hH2 := hHeld
                      clear hHeld hb
                      have hHeld := hH2
                      refine wpAnyH_take (i := 45) (oi := { dst := some 121, op := Go.Op.unOp Go.UnOp.not 4 (Go.Operand.tmp 120), type := 4, pos := "law.go:46", after := #[{ on := 44, ground := Go.Ground.data }, { on := 31, ground := Go.Ground.guard }], guard := some (31, false) }) (v := ?vv76) rfl (by kernel_rfl) (by kernel_rfl) (by kernel_rfl) (fun _ _ _ h => h) (Or.inl ⟨by rfl, ?hy76⟩) (by assumption) ?rr76
                      case hy76 => intro w hSw; (try dsimp only at hSw); go_simp; all_goals with_reducible rfl
                      try simp only [Act.put, List.setIfInBounds_toArray, List.set_cons_zero, List.set_cons_succ]
                      refine wpAnyH_take (i := 46) (oi := { dst := some 122, op := Go.Op.pick (Go.Operand.tmp 107) (Go.Operand.const (Go.Value.bool true)) (Go.Operand.tmp 121), type := 4, pos := "law.go:46", after := #[{ on := 31, ground := Go.Ground.data }, { on := 45, ground := Go.Ground.data }], guard := none }) (v := ?vv77) rfl (by kernel_rfl) (by kernel_rfl) (by kernel_rfl) (fun _ _ _ h => h) (Or.inl ⟨by rfl, ?hy77⟩) (by assumption) ?rr77
                      case hy77 => intro w hSw; (try dsimp only at hSw); go_simp; all_goals with_reducible rfl
                      try simp only [Act.put, List.setIfInBounds_toArray, List.set_cons_zero, List.set_cons_succ]
                      refine wpAnyH_done (by kernel_rfl) ?_ _
                      have hHeldB := hHeld.2.2.2.2.2
                      go_wp2_with fail
                      go_loopw [9] (fun i' wr' => ∃ j : Nat, j ≤ o.slots.length ∧ i' = .int .i64 j ∧ Below wo.heap.size wo wr') (fun i' _ => o.slots.length - (intOf i').toNat)
                      case atStart => exact ⟨0, Nat.zero_le _, rfl, hHeldB⟩
                      case round =>
                        obtain ⟨j, hj, rfl, hbw⟩ := hrel
                        have HW2 := hid hbw
                        have x0' := cell_later hbw x0
                        have x1' := cell_later hbw x1
                        have x2' := cell_later hbw x2
                        have lc' := cell_later hbw lc
                        have e2' := cell_later hbw e2
                        clear hbw
                        by_cases hjl : j < o.slots.length
                        · obtain ⟨bt, ot, rfl, hbt, hct⟩ := HIN2 (by omega)
                          have sc := cell_later HW2.out (hct j _ (List.getElem?_eq_getElem hjl))
                          have hsv := HSV.out _ (List.getElem_mem hjl)
                          obtain ⟨v, hv⟩ : ∃ v, v = o.slots[j] := ⟨_, rfl⟩
                          rw [← hv] at sc hsv
                          have HSV2 := hid hsv
                          clear hct hv hsv
                          go_wp2_with fail
                          go_quiet (fail)
                          go_wp2_with fail
                          cases hrv : refB h.objs.length v
                          · have rv2 : refI h.objs.length v = -1 := refI_no hrv
                            refine wp_region_held_drew (S := (fun w' => w'.cell? ⟨w.heap.size, 0, none⟩ = some (.slice (some ⟨b, off, none⟩) h.objs.length c) ∧ w'.cell? ⟨w.heap.size, 1, none⟩ = some (.int .i64 h.cap) ∧ w'.cell? ⟨w.heap.size, 2, none⟩ = some (.int .i64 h.last) ∧ w'.cell? ⟨bl, ol, none⟩ = some (.int .i64 i) ∧ w'.cell? ⟨b, off + i * 6 + 2, none⟩ = some (.slice (some ⟨bt, ot, none⟩) o.slots.length ds) ∧ w'.cell? ⟨bt, ot + j, none⟩ = some (.int .i64 v) ∧ Below wr.heap.size wr w')) (by kernel_rfl) ?_ (fun hHeld => ?_)
                            · exact ⟨x0', x1', x2', lc', e2', sc, (below_drewN _ _).drew⟩
                            refine wpAnyH_take (i := 0) (oi := { dst := some 137, op := Go.Op.load 24 (Go.Operand.tmp 2), type := 24, pos := "law.go:50", after := #[], guard := none }) (v := ?vv137) rfl (by kernel_rfl) (by kernel_rfl) (by kernel_rfl) (fun _ _ _ h => h) (Or.inl ⟨by rfl, ?hy137⟩) (by assumption) ?rr137
                            case hy137 => intro w hSw; (try dsimp only at hSw); go_simp; all_goals with_reducible rfl
                            try simp only [Act.put, List.setIfInBounds_toArray, List.set_cons_zero, List.set_cons_succ]
                            refine wpAnyH_take (i := 1) (oi := { dst := some 138, op := Go.Op.fieldAddr 24 (Go.Operand.tmp 2) 0, type := 0, pos := "law.go:50", after := #[], guard := none }) (v := ?vv138) rfl (by kernel_rfl) (by kernel_rfl) (by kernel_rfl) (fun _ _ _ h => h) (Or.inl ⟨by rfl, ?hy138⟩) (by assumption) ?rr138
                            case hy138 => intro w hSw; (try dsimp only at hSw); go_simp; all_goals with_reducible rfl
                            try simp only [Act.put, List.setIfInBounds_toArray, List.set_cons_zero, List.set_cons_succ]
                            refine wpAnyH_take (i := 2) (oi := { dst := some 139, op := Go.Op.load 22 (Go.Operand.tmp 138), type := 22, pos := "law.go:50", after := #[{ on := 1, ground := Go.Ground.data }], guard := none }) (v := ?vv139) rfl (by kernel_rfl) (by kernel_rfl) (by kernel_rfl) (fun _ _ _ h => h) (Or.inl ⟨by rfl, ?hy139⟩) (by assumption) ?rr139
                            case hy139 => intro w hSw; (try dsimp only at hSw); go_simp; all_goals with_reducible rfl
                            try simp only [Act.put, List.setIfInBounds_toArray, List.set_cons_zero, List.set_cons_succ]
                            refine wpAnyH_take (i := 3) (oi := { dst := some 140, op := Go.Op.move (Go.Operand.tmp 5), type := 44, pos := "law.go:50", after := #[], guard := none }) (v := ?vv140) rfl (by kernel_rfl) (by kernel_rfl) (by kernel_rfl) (fun _ _ _ h => h) (Or.inl ⟨by rfl, ?hy140⟩) (by assumption) ?rr140
                            case hy140 => intro w hSw; (try dsimp only at hSw); go_simp; all_goals with_reducible rfl
                            try simp only [Act.put, List.setIfInBounds_toArray, List.set_cons_zero, List.set_cons_succ]
                            refine wpAnyH_take (i := 4) (oi := { dst := some 141, op := Go.Op.move (Go.Operand.tmp 8), type := 3, pos := "law.go:50", after := #[], guard := none }) (v := ?vv141) rfl (by kernel_rfl) (by kernel_rfl) (by kernel_rfl) (fun _ _ _ h => h) (Or.inl ⟨by rfl, ?hy141⟩) (by assumption) ?rr141
                            case hy141 => intro w hSw; (try dsimp only at hSw); go_simp; all_goals with_reducible rfl
                            try simp only [Act.put, List.setIfInBounds_toArray, List.set_cons_zero, List.set_cons_succ]
                            refine wpAnyH_take (i := 5) (oi := { dst := some 142, op := Go.Op.indexAddr 44 (Go.Operand.tmp 140) (Go.Operand.tmp 141), type := 0, pos := "law.go:50", after := #[{ on := 3, ground := Go.Ground.data }, { on := 4, ground := Go.Ground.data }], guard := none }) (v := ?vv142) rfl (by kernel_rfl) (by kernel_rfl) (by kernel_rfl) (fun _ _ _ h => h) (Or.inl ⟨by rfl, ?hy142⟩) (by assumption) ?rr142
                            case hy142 => intro w hSw; (try dsimp only at hSw); go_simp; all_goals with_reducible rfl
                            try simp only [Act.put, List.setIfInBounds_toArray, List.set_cons_zero, List.set_cons_succ]
                            refine wpAnyH_take (i := 6) (oi := { dst := some 143, op := Go.Op.load 3 (Go.Operand.tmp 142), type := 3, pos := "law.go:50", after := #[{ on := 5, ground := Go.Ground.data }], guard := none }) (v := ?vv143) rfl (by kernel_rfl) (by kernel_rfl) (by kernel_rfl) (fun _ _ _ h => h) (Or.inl ⟨by rfl, ?hy143⟩) (by assumption) ?rr143
                            case hy143 => intro w hSw; (try dsimp only at hSw); go_simp; all_goals with_reducible rfl
                            try simp only [Act.put, List.setIfInBounds_toArray, List.set_cons_zero, List.set_cons_succ]
                            refine wpAnyH_take (i := 7) (oi := { dst := some 144, op := Go.Op.indexAddr 22 (Go.Operand.tmp 139) (Go.Operand.tmp 143), type := 0, pos := "law.go:50", after := #[{ on := 2, ground := Go.Ground.data }, { on := 6, ground := Go.Ground.data }], guard := none }) (v := ?vv144) rfl (by kernel_rfl) (by kernel_rfl) (by kernel_rfl) (fun _ _ _ h => h) (Or.inl ⟨by rfl, ?hy144⟩) (by assumption) ?rr144
                            case hy144 => intro w hSw; (try dsimp only at hSw); go_simp; all_goals with_reducible rfl
                            try simp only [Act.put, List.setIfInBounds_toArray, List.set_cons_zero, List.set_cons_succ]
                            refine wpAnyH_take (i := 8) (oi := { dst := some 145, op := Go.Op.fieldAddr 46 (Go.Operand.tmp 144) 2, type := 0, pos := "law.go:50", after := #[{ on := 7, ground := Go.Ground.data }], guard := none }) (v := ?vv145) rfl (by kernel_rfl) (by kernel_rfl) (by kernel_rfl) (fun _ _ _ h => h) (Or.inl ⟨by rfl, ?hy145⟩) (by assumption) ?rr145
                            case hy145 => intro w hSw; (try dsimp only at hSw); go_simp; all_goals with_reducible rfl
                            try simp only [Act.put, List.setIfInBounds_toArray, List.set_cons_zero, List.set_cons_succ]
                            refine wpAnyH_take (i := 9) (oi := { dst := some 146, op := Go.Op.load 44 (Go.Operand.tmp 145), type := 44, pos := "law.go:50", after := #[{ on := 8, ground := Go.Ground.data }], guard := none }) (v := ?vv146) rfl (by kernel_rfl) (by kernel_rfl) (by kernel_rfl) (fun _ _ _ h => h) (Or.inl ⟨by rfl, ?hy146⟩) (by assumption) ?rr146
                            case hy146 => intro w hSw; (try dsimp only at hSw); go_simp; all_goals with_reducible rfl
                            try simp only [Act.put, List.setIfInBounds_toArray, List.set_cons_zero, List.set_cons_succ]
                            refine wpAnyH_take (i := 10) (oi := { dst := some 147, op := Go.Op.move (Go.Operand.tmp 9), type := 3, pos := "law.go:50", after := #[], guard := none }) (v := ?vv147) rfl (by kernel_rfl) (by kernel_rfl) (by kernel_rfl) (fun _ _ _ h => h) (Or.inl ⟨by rfl, ?hy147⟩) (by assumption) ?rr147
                            case hy147 => intro w hSw; (try dsimp only at hSw); go_simp; all_goals with_reducible rfl
                            try simp only [Act.put, List.setIfInBounds_toArray, List.set_cons_zero, List.set_cons_succ]
                            refine wpAnyH_take (i := 11) (oi := { dst := some 148, op := Go.Op.indexAddr 44 (Go.Operand.tmp 146) (Go.Operand.tmp 147), type := 0, pos := "law.go:50", after := #[{ on := 9, ground := Go.Ground.data }, { on := 10, ground := Go.Ground.data }], guard := none }) (v := ?vv148) rfl (by kernel_rfl) (by kernel_rfl) (by kernel_rfl) (fun _ _ _ h => h) (Or.inl ⟨by rfl, ?hy148⟩) (by assumption) ?rr148
                            case hy148 => intro w hSw; (try dsimp only at hSw); go_simp; all_goals with_reducible rfl
                            try simp only [Act.put, List.setIfInBounds_toArray, List.set_cons_zero, List.set_cons_succ]
                            refine wpAnyH_take (i := 12) (oi := { dst := some 149, op := Go.Op.load 3 (Go.Operand.tmp 148), type := 3, pos := "law.go:50", after := #[{ on := 11, ground := Go.Ground.data }], guard := none }) (v := ?vv149) rfl (by kernel_rfl) (by kernel_rfl) (by kernel_rfl) (fun _ _ _ h => h) (Or.inl ⟨by rfl, ?hy149⟩) (by assumption) ?rr149
                            case hy149 => intro w hSw; (try dsimp only at hSw); go_simp; all_goals with_reducible rfl
                            try simp only [Act.put, List.setIfInBounds_toArray, List.set_cons_zero, List.set_cons_succ]
                            refine wpAnyH_ready (rs := [13]) (by kernel_rfl) (by simp) ?_
                            refine AllReadyH.cons (i := 13) (o := { dst := some 150, op := Go.Op.call { callee := Go.Callee.value (Go.Operand.func 33), args := #[Go.Operand.tmp 137, Go.Operand.tmp 149], argTypes := #[24, 3] }, type := 3, pos := "law.go:50", after := #[{ on := 0, ground := Go.Ground.data }, { on := 12, ground := Go.Ground.data }], guard := none }) rfl (fun K hK => ?_) AllReadyH.nil
                            go_simp
                            go_at_call 33
                            refine (rref_any h v (some ⟨b, off, none⟩) c _).mono ?_
                            rintro e w' ⟨rfl, hb⟩
                            rw [rv2]
                            refine hK.out _ _ ?_ (fun hHeld => ?_)
                            · exact ⟨cell_later hb x0', cell_later hb x1', cell_later hb x2', cell_later hb lc', cell_later hb e2', cell_later hb sc, draw_then (below_drewN _ _).drew hb⟩
                            clear hK K
                            try simp only [Act.put, List.setIfInBounds_toArray, List.set_cons_zero, List.set_cons_succ]
                            have hH1 := hHeld
                            clear hHeld hb
                            have hHeld := hH1
                            refine wpAnyH_take (i := 14) (oi := { dst := some 10, op := Go.Op.assign (Go.Operand.tmp 150), type := 3, pos := "law.go:50", after := #[{ on := 13, ground := Go.Ground.data }, { on := 13, ground := Go.Ground.chain }, { on := 0, ground := Go.Ground.phase }, { on := 1, ground := Go.Ground.phase }, { on := 2, ground := Go.Ground.phase }, { on := 3, ground := Go.Ground.phase }, { on := 4, ground := Go.Ground.phase }, { on := 5, ground := Go.Ground.phase }, { on := 6, ground := Go.Ground.phase }, { on := 7, ground := Go.Ground.phase }, { on := 8, ground := Go.Ground.phase }, { on := 9, ground := Go.Ground.phase }, { on := 10, ground := Go.Ground.phase }, { on := 11, ground := Go.Ground.phase }, { on := 12, ground := Go.Ground.phase }, { on := 13, ground := Go.Ground.phase }], guard := none }) (v := ?vv150) rfl (by kernel_rfl) (by kernel_rfl) (by kernel_rfl) (fun _ _ _ h => h) (Or.inl ⟨by rfl, ?hy150⟩) (by assumption) ?rr150
                            case hy150 => intro w hSw; (try dsimp only at hSw); go_simp; all_goals with_reducible rfl
                            try simp only [Act.put, List.setIfInBounds_toArray, List.set_cons_zero, List.set_cons_succ]
                            refine wpAnyH_done (by kernel_rfl) ?_ _
                            have hHeldC := hHeld.2.2.2.2.2.2
                            go_wp2_with fail
                            go_roundw
                            case rel => exact ⟨j + 1, by omega, by go_num, HW2.out.trans (hHeldC.mono HW2.out.size)⟩
                            case measure => simp [intOf]; omega
                          · obtain ⟨q, hq⟩ : ∃ q : Nat, atV v = q := ⟨_, (refB_nat hrv).2.symm⟩
                            have rv2 : refI h.objs.length v = q := by rw [refI_nonneg hrv, hq]
                            have hqm : decide ((q : Int) ∈ liveL h rs) = true := decide_eq_true (by rw [← rv2]; exact HSV2.out hrv)
                            refine wp_region_held_drew (S := (fun w' => w'.cell? ⟨w.heap.size, 0, none⟩ = some (.slice (some ⟨b, off, none⟩) h.objs.length c) ∧ w'.cell? ⟨w.heap.size, 1, none⟩ = some (.int .i64 h.cap) ∧ w'.cell? ⟨w.heap.size, 2, none⟩ = some (.int .i64 h.last) ∧ w'.cell? ⟨bl, ol, none⟩ = some (.int .i64 i) ∧ w'.cell? ⟨b, off + i * 6 + 2, none⟩ = some (.slice (some ⟨bt, ot, none⟩) o.slots.length ds) ∧ w'.cell? ⟨bt, ot + j, none⟩ = some (.int .i64 v) ∧ Below wr.heap.size wr w')) (by kernel_rfl) ?_ (fun hHeld => ?_)
                            · exact ⟨x0', x1', x2', lc', e2', sc, (below_drewN _ _).drew⟩
                            refine wpAnyH_take (i := 0) (oi := { dst := some 137, op := Go.Op.load 24 (Go.Operand.tmp 2), type := 24, pos := "law.go:50", after := #[], guard := none }) (v := ?vv151) rfl (by kernel_rfl) (by kernel_rfl) (by kernel_rfl) (fun _ _ _ h => h) (Or.inl ⟨by rfl, ?hy151⟩) (by assumption) ?rr151
                            case hy151 => intro w hSw; (try dsimp only at hSw); go_simp; all_goals with_reducible rfl
                            try simp only [Act.put, List.setIfInBounds_toArray, List.set_cons_zero, List.set_cons_succ]
                            refine wpAnyH_take (i := 1) (oi := { dst := some 138, op := Go.Op.fieldAddr 24 (Go.Operand.tmp 2) 0, type := 0, pos := "law.go:50", after := #[], guard := none }) (v := ?vv152) rfl (by kernel_rfl) (by kernel_rfl) (by kernel_rfl) (fun _ _ _ h => h) (Or.inl ⟨by rfl, ?hy152⟩) (by assumption) ?rr152
                            case hy152 => intro w hSw; (try dsimp only at hSw); go_simp; all_goals with_reducible rfl
                            try simp only [Act.put, List.setIfInBounds_toArray, List.set_cons_zero, List.set_cons_succ]
                            refine wpAnyH_take (i := 2) (oi := { dst := some 139, op := Go.Op.load 22 (Go.Operand.tmp 138), type := 22, pos := "law.go:50", after := #[{ on := 1, ground := Go.Ground.data }], guard := none }) (v := ?vv153) rfl (by kernel_rfl) (by kernel_rfl) (by kernel_rfl) (fun _ _ _ h => h) (Or.inl ⟨by rfl, ?hy153⟩) (by assumption) ?rr153
                            case hy153 => intro w hSw; (try dsimp only at hSw); go_simp; all_goals with_reducible rfl
                            try simp only [Act.put, List.setIfInBounds_toArray, List.set_cons_zero, List.set_cons_succ]
                            refine wpAnyH_take (i := 3) (oi := { dst := some 140, op := Go.Op.move (Go.Operand.tmp 5), type := 44, pos := "law.go:50", after := #[], guard := none }) (v := ?vv154) rfl (by kernel_rfl) (by kernel_rfl) (by kernel_rfl) (fun _ _ _ h => h) (Or.inl ⟨by rfl, ?hy154⟩) (by assumption) ?rr154
                            case hy154 => intro w hSw; (try dsimp only at hSw); go_simp; all_goals with_reducible rfl
                            try simp only [Act.put, List.setIfInBounds_toArray, List.set_cons_zero, List.set_cons_succ]
                            refine wpAnyH_take (i := 4) (oi := { dst := some 141, op := Go.Op.move (Go.Operand.tmp 8), type := 3, pos := "law.go:50", after := #[], guard := none }) (v := ?vv155) rfl (by kernel_rfl) (by kernel_rfl) (by kernel_rfl) (fun _ _ _ h => h) (Or.inl ⟨by rfl, ?hy155⟩) (by assumption) ?rr155
                            case hy155 => intro w hSw; (try dsimp only at hSw); go_simp; all_goals with_reducible rfl
                            try simp only [Act.put, List.setIfInBounds_toArray, List.set_cons_zero, List.set_cons_succ]
                            refine wpAnyH_take (i := 5) (oi := { dst := some 142, op := Go.Op.indexAddr 44 (Go.Operand.tmp 140) (Go.Operand.tmp 141), type := 0, pos := "law.go:50", after := #[{ on := 3, ground := Go.Ground.data }, { on := 4, ground := Go.Ground.data }], guard := none }) (v := ?vv156) rfl (by kernel_rfl) (by kernel_rfl) (by kernel_rfl) (fun _ _ _ h => h) (Or.inl ⟨by rfl, ?hy156⟩) (by assumption) ?rr156
                            case hy156 => intro w hSw; (try dsimp only at hSw); go_simp; all_goals with_reducible rfl
                            try simp only [Act.put, List.setIfInBounds_toArray, List.set_cons_zero, List.set_cons_succ]
                            refine wpAnyH_take (i := 6) (oi := { dst := some 143, op := Go.Op.load 3 (Go.Operand.tmp 142), type := 3, pos := "law.go:50", after := #[{ on := 5, ground := Go.Ground.data }], guard := none }) (v := ?vv157) rfl (by kernel_rfl) (by kernel_rfl) (by kernel_rfl) (fun _ _ _ h => h) (Or.inl ⟨by rfl, ?hy157⟩) (by assumption) ?rr157
                            case hy157 => intro w hSw; (try dsimp only at hSw); go_simp; all_goals with_reducible rfl
                            try simp only [Act.put, List.setIfInBounds_toArray, List.set_cons_zero, List.set_cons_succ]
                            refine wpAnyH_take (i := 7) (oi := { dst := some 144, op := Go.Op.indexAddr 22 (Go.Operand.tmp 139) (Go.Operand.tmp 143), type := 0, pos := "law.go:50", after := #[{ on := 2, ground := Go.Ground.data }, { on := 6, ground := Go.Ground.data }], guard := none }) (v := ?vv158) rfl (by kernel_rfl) (by kernel_rfl) (by kernel_rfl) (fun _ _ _ h => h) (Or.inl ⟨by rfl, ?hy158⟩) (by assumption) ?rr158
                            case hy158 => intro w hSw; (try dsimp only at hSw); go_simp; all_goals with_reducible rfl
                            try simp only [Act.put, List.setIfInBounds_toArray, List.set_cons_zero, List.set_cons_succ]
                            refine wpAnyH_take (i := 8) (oi := { dst := some 145, op := Go.Op.fieldAddr 46 (Go.Operand.tmp 144) 2, type := 0, pos := "law.go:50", after := #[{ on := 7, ground := Go.Ground.data }], guard := none }) (v := ?vv159) rfl (by kernel_rfl) (by kernel_rfl) (by kernel_rfl) (fun _ _ _ h => h) (Or.inl ⟨by rfl, ?hy159⟩) (by assumption) ?rr159
                            case hy159 => intro w hSw; (try dsimp only at hSw); go_simp; all_goals with_reducible rfl
                            try simp only [Act.put, List.setIfInBounds_toArray, List.set_cons_zero, List.set_cons_succ]
                            refine wpAnyH_take (i := 9) (oi := { dst := some 146, op := Go.Op.load 44 (Go.Operand.tmp 145), type := 44, pos := "law.go:50", after := #[{ on := 8, ground := Go.Ground.data }], guard := none }) (v := ?vv160) rfl (by kernel_rfl) (by kernel_rfl) (by kernel_rfl) (fun _ _ _ h => h) (Or.inl ⟨by rfl, ?hy160⟩) (by assumption) ?rr160
                            case hy160 => intro w hSw; (try dsimp only at hSw); go_simp; all_goals with_reducible rfl
                            try simp only [Act.put, List.setIfInBounds_toArray, List.set_cons_zero, List.set_cons_succ]
                            refine wpAnyH_take (i := 10) (oi := { dst := some 147, op := Go.Op.move (Go.Operand.tmp 9), type := 3, pos := "law.go:50", after := #[], guard := none }) (v := ?vv161) rfl (by kernel_rfl) (by kernel_rfl) (by kernel_rfl) (fun _ _ _ h => h) (Or.inl ⟨by rfl, ?hy161⟩) (by assumption) ?rr161
                            case hy161 => intro w hSw; (try dsimp only at hSw); go_simp; all_goals with_reducible rfl
                            try simp only [Act.put, List.setIfInBounds_toArray, List.set_cons_zero, List.set_cons_succ]
                            refine wpAnyH_take (i := 11) (oi := { dst := some 148, op := Go.Op.indexAddr 44 (Go.Operand.tmp 146) (Go.Operand.tmp 147), type := 0, pos := "law.go:50", after := #[{ on := 9, ground := Go.Ground.data }, { on := 10, ground := Go.Ground.data }], guard := none }) (v := ?vv162) rfl (by kernel_rfl) (by kernel_rfl) (by kernel_rfl) (fun _ _ _ h => h) (Or.inl ⟨by rfl, ?hy162⟩) (by assumption) ?rr162
                            case hy162 => intro w hSw; (try dsimp only at hSw); go_simp; all_goals with_reducible rfl
                            try simp only [Act.put, List.setIfInBounds_toArray, List.set_cons_zero, List.set_cons_succ]
                            refine wpAnyH_take (i := 12) (oi := { dst := some 149, op := Go.Op.load 3 (Go.Operand.tmp 148), type := 3, pos := "law.go:50", after := #[{ on := 11, ground := Go.Ground.data }], guard := none }) (v := ?vv163) rfl (by kernel_rfl) (by kernel_rfl) (by kernel_rfl) (fun _ _ _ h => h) (Or.inl ⟨by rfl, ?hy163⟩) (by assumption) ?rr163
                            case hy163 => intro w hSw; (try dsimp only at hSw); go_simp; all_goals with_reducible rfl
                            try simp only [Act.put, List.setIfInBounds_toArray, List.set_cons_zero, List.set_cons_succ]
                            refine wpAnyH_ready (rs := [13]) (by kernel_rfl) (by simp) ?_
                            refine AllReadyH.cons (i := 13) (o := { dst := some 150, op := Go.Op.call { callee := Go.Callee.value (Go.Operand.func 33), args := #[Go.Operand.tmp 137, Go.Operand.tmp 149], argTypes := #[24, 3] }, type := 3, pos := "law.go:50", after := #[{ on := 0, ground := Go.Ground.data }, { on := 12, ground := Go.Ground.data }], guard := none }) rfl (fun K hK => ?_) AllReadyH.nil
                            go_simp
                            go_at_call 33
                            refine (rref_any h v (some ⟨b, off, none⟩) c _).mono ?_
                            rintro e w' ⟨rfl, hb⟩
                            rw [rv2]
                            refine hK.out _ _ ?_ (fun hHeld => ?_)
                            · exact ⟨cell_later hb x0', cell_later hb x1', cell_later hb x2', cell_later hb lc', cell_later hb e2', cell_later hb sc, draw_then (below_drewN _ _).drew hb⟩
                            clear hK K
                            try simp only [Act.put, List.setIfInBounds_toArray, List.set_cons_zero, List.set_cons_succ]
                            have hH1 := hHeld
                            clear hHeld hb
                            have hHeld := hH1
                            refine wpAnyH_take (i := 14) (oi := { dst := some 10, op := Go.Op.assign (Go.Operand.tmp 150), type := 3, pos := "law.go:50", after := #[{ on := 13, ground := Go.Ground.data }, { on := 13, ground := Go.Ground.chain }, { on := 0, ground := Go.Ground.phase }, { on := 1, ground := Go.Ground.phase }, { on := 2, ground := Go.Ground.phase }, { on := 3, ground := Go.Ground.phase }, { on := 4, ground := Go.Ground.phase }, { on := 5, ground := Go.Ground.phase }, { on := 6, ground := Go.Ground.phase }, { on := 7, ground := Go.Ground.phase }, { on := 8, ground := Go.Ground.phase }, { on := 9, ground := Go.Ground.phase }, { on := 10, ground := Go.Ground.phase }, { on := 11, ground := Go.Ground.phase }, { on := 12, ground := Go.Ground.phase }, { on := 13, ground := Go.Ground.phase }], guard := none }) (v := ?vv164) rfl (by kernel_rfl) (by kernel_rfl) (by kernel_rfl) (fun _ _ _ h => h) (Or.inl ⟨by rfl, ?hy164⟩) (by assumption) ?rr164
                            case hy164 => intro w hSw; (try dsimp only at hSw); go_simp; all_goals with_reducible rfl
                            try simp only [Act.put, List.setIfInBounds_toArray, List.set_cons_zero, List.set_cons_succ]
                            refine wpAnyH_done (by kernel_rfl) ?_ _
                            have hHeldC := hHeld.2.2.2.2.2.2
                            go_wp2_with fail
                            refine (in_any (liveL h rs) q (some ⟨bl, ol, none⟩) c4 _ ((HI.out.below HW2.out).below hHeldC) (by omega)).mono ?_
                            rintro e w6 ⟨rfl, hb6⟩
                            rw [hqm]
                            go_wp2_with fail
                            go_roundw
                            case rel => exact ⟨j + 1, by omega, by go_num, (HW2.out.trans (hHeldC.mono HW2.out.size)).trans (hb6.mono (Nat.le_trans HW2.out.size hHeldC.size))⟩
                            case measure => simp [intOf]; omega
                        · go_wp2_with fail
                          go_quiet (fail)
                          go_wp2_with fail
                          go_roundw
                          case rel => exact ⟨0 + 1, by omega, by go_num, HW.out.trans ((HW2.out.trans ((below_drewN _ _).mono HW2.out.size)).mono HW.out.size)⟩
                          case measure => simp [intOf]; omega
                    | succ m =>
                      obtain ⟨x, hx, pc⟩ := hprev.out m hk0
                      subst hk0
                      have hk18 : ((m : Int) + 1 - 1) = m := by omega
                      have h01 : (0 : Int) ≤ (m : Int) + 1 := by omega
                      have hwm : IntKind.i64.wrap (m : Int) = m := IntWalk.i64_in _ (by omega)
                      have HXD : Hid (decide ((i : Int) ≤ x) = false) := decide_eq_false (by omega)
                      have hml : m < (liveL h rs).length := by omega
                      go_wp2_with fail
                      refine wp_region_held_drew (S := (fun w' => w'.cell? ⟨w.heap.size, 0, none⟩ = some (.slice (some ⟨b, off, none⟩) h.objs.length c) ∧ w'.cell? ⟨w.heap.size, 1, none⟩ = some (.int .i64 h.cap) ∧ w'.cell? ⟨w.heap.size, 2, none⟩ = some (.int .i64 h.last) ∧ w'.cell? ⟨bl, ol + (m + 1), none⟩ = some (.int .i64 i) ∧ w'.cell? ⟨b, off + i * 6, none⟩ = some (.int .i64 o.cls) ∧ w'.cell? ⟨bl, ol + m, none⟩ = some (.int .i64 x) ∧ Below wo.heap.size wo w')) (by kernel_rfl) ?_ (fun hHeld => ?_)
                      · exact ⟨x0, x1, x2, lc, e0, pc, (Below.refl _ _).drew⟩
                      refine wpAnyH_take (i := 0) (oi := { dst := some 76, op := Go.Op.move (Go.Operand.tmp 5), type := 44, pos := "law.go:46", after := #[], guard := none }) (v := ?vv78) rfl (by kernel_rfl) (by kernel_rfl) (by kernel_rfl) (fun _ _ _ h => h) (Or.inl ⟨by rfl, ?hy78⟩) (by assumption) ?rr78
                      case hy78 => intro w hSw; (try dsimp only at hSw); go_simp; all_goals with_reducible rfl
                      try simp only [Act.put, List.setIfInBounds_toArray, List.set_cons_zero, List.set_cons_succ]
                      refine wpAnyH_take (i := 1) (oi := { dst := some 77, op := Go.Op.move (Go.Operand.tmp 8), type := 3, pos := "law.go:46", after := #[], guard := none }) (v := ?vv79) rfl (by kernel_rfl) (by kernel_rfl) (by kernel_rfl) (fun _ _ _ h => h) (Or.inl ⟨by rfl, ?hy79⟩) (by assumption) ?rr79
                      case hy79 => intro w hSw; (try dsimp only at hSw); go_simp; all_goals with_reducible rfl
                      try simp only [Act.put, List.setIfInBounds_toArray, List.set_cons_zero, List.set_cons_succ]
                      refine wpAnyH_take (i := 2) (oi := { dst := some 78, op := Go.Op.indexAddr 44 (Go.Operand.tmp 76) (Go.Operand.tmp 77), type := 0, pos := "law.go:46", after := #[{ on := 0, ground := Go.Ground.data }, { on := 1, ground := Go.Ground.data }], guard := none }) (v := ?vv80) rfl (by kernel_rfl) (by kernel_rfl) (by kernel_rfl) (fun _ _ _ h => h) (Or.inl ⟨by rfl, ?hy80⟩) (by assumption) ?rr80
                      case hy80 => intro w hSw; (try dsimp only at hSw); go_simp; all_goals with_reducible rfl
                      try simp only [Act.put, List.setIfInBounds_toArray, List.set_cons_zero, List.set_cons_succ]
                      refine wpAnyH_take (i := 3) (oi := { dst := some 79, op := Go.Op.load 3 (Go.Operand.tmp 78), type := 3, pos := "law.go:46", after := #[{ on := 2, ground := Go.Ground.data }], guard := none }) (v := ?vv81) rfl (by kernel_rfl) (by kernel_rfl) (by kernel_rfl) (fun _ _ _ h => h) (Or.inl ⟨by rfl, ?hy81⟩) (by assumption) ?rr81
                      case hy81 => intro w hSw; (try dsimp only at hSw); go_simp; all_goals with_reducible rfl
                      try simp only [Act.put, List.setIfInBounds_toArray, List.set_cons_zero, List.set_cons_succ]
                      refine wpAnyH_take (i := 4) (oi := { dst := some 80, op := Go.Op.binOp Go.BinOp.lss 3 (Go.Operand.tmp 79) (Go.Operand.const (Go.Value.int Go.IntKind.i64 0)) 3, type := 4, pos := "law.go:46", after := #[{ on := 3, ground := Go.Ground.data }], guard := none }) (v := ?vv82) rfl (by kernel_rfl) (by kernel_rfl) (by kernel_rfl) (fun _ _ _ h => h) (Or.inl ⟨by rfl, ?hy82⟩) (by assumption) ?rr82
                      case hy82 => intro w hSw; (try dsimp only at hSw); go_simp; all_goals with_reducible rfl
                      try simp only [Act.put, List.setIfInBounds_toArray, List.set_cons_zero, List.set_cons_succ]
                      refine wpAnyH_take (i := 5) (oi := { dst := some 81, op := Go.Op.move (Go.Operand.tmp 80), type := 4, pos := "law.go:46", after := #[{ on := 4, ground := Go.Ground.data }], guard := none }) (v := ?vv83) rfl (by kernel_rfl) (by kernel_rfl) (by kernel_rfl) (fun _ _ _ h => h) (Or.inl ⟨by rfl, ?hy83⟩) (by assumption) ?rr83
                      case hy83 => intro w hSw; (try dsimp only at hSw); go_simp; all_goals with_reducible rfl
                      try simp only [Act.put, List.setIfInBounds_toArray, List.set_cons_zero, List.set_cons_succ]
                      refine wpAnyH_take (i := 6) (oi := { dst := some 82, op := Go.Op.move (Go.Operand.tmp 5), type := 44, pos := "law.go:46", after := #[{ on := 5, ground := Go.Ground.guard }], guard := some (5, false) }) (v := ?vv84) rfl (by kernel_rfl) (by kernel_rfl) (by kernel_rfl) (fun _ _ _ h => h) (Or.inl ⟨by rfl, ?hy84⟩) (by assumption) ?rr84
                      case hy84 => intro w hSw; (try dsimp only at hSw); go_simp; all_goals with_reducible rfl
                      try simp only [Act.put, List.setIfInBounds_toArray, List.set_cons_zero, List.set_cons_succ]
                      refine wpAnyH_take (i := 7) (oi := { dst := some 83, op := Go.Op.move (Go.Operand.tmp 8), type := 3, pos := "law.go:46", after := #[{ on := 5, ground := Go.Ground.guard }], guard := some (5, false) }) (v := ?vv85) rfl (by kernel_rfl) (by kernel_rfl) (by kernel_rfl) (fun _ _ _ h => h) (Or.inl ⟨by rfl, ?hy85⟩) (by assumption) ?rr85
                      case hy85 => intro w hSw; (try dsimp only at hSw); go_simp; all_goals with_reducible rfl
                      try simp only [Act.put, List.setIfInBounds_toArray, List.set_cons_zero, List.set_cons_succ]
                      refine wpAnyH_take (i := 8) (oi := { dst := some 84, op := Go.Op.indexAddr 44 (Go.Operand.tmp 82) (Go.Operand.tmp 83), type := 0, pos := "law.go:46", after := #[{ on := 6, ground := Go.Ground.data }, { on := 7, ground := Go.Ground.data }, { on := 5, ground := Go.Ground.guard }], guard := some (5, false) }) (v := ?vv86) rfl (by kernel_rfl) (by kernel_rfl) (by kernel_rfl) (fun _ _ _ h => h) (Or.inl ⟨by rfl, ?hy86⟩) (by assumption) ?rr86
                      case hy86 => intro w hSw; (try dsimp only at hSw); go_simp; all_goals with_reducible rfl
                      try simp only [Act.put, List.setIfInBounds_toArray, List.set_cons_zero, List.set_cons_succ]
                      refine wpAnyH_take (i := 9) (oi := { dst := some 85, op := Go.Op.load 3 (Go.Operand.tmp 84), type := 3, pos := "law.go:46", after := #[{ on := 8, ground := Go.Ground.data }, { on := 5, ground := Go.Ground.guard }], guard := some (5, false) }) (v := ?vv87) rfl (by kernel_rfl) (by kernel_rfl) (by kernel_rfl) (fun _ _ _ h => h) (Or.inl ⟨by rfl, ?hy87⟩) (by assumption) ?rr87
                      case hy87 => intro w hSw; (try dsimp only at hSw); go_simp; all_goals with_reducible rfl
                      try simp only [Act.put, List.setIfInBounds_toArray, List.set_cons_zero, List.set_cons_succ]
                      refine wpAnyH_take (i := 10) (oi := { dst := some 86, op := Go.Op.fieldAddr 24 (Go.Operand.tmp 2) 0, type := 0, pos := "law.go:46", after := #[{ on := 5, ground := Go.Ground.guard }], guard := some (5, false) }) (v := ?vv88) rfl (by kernel_rfl) (by kernel_rfl) (by kernel_rfl) (fun _ _ _ h => h) (Or.inl ⟨by rfl, ?hy88⟩) (by assumption) ?rr88
                      case hy88 => intro w hSw; (try dsimp only at hSw); go_simp; all_goals with_reducible rfl
                      try simp only [Act.put, List.setIfInBounds_toArray, List.set_cons_zero, List.set_cons_succ]
                      refine wpAnyH_take (i := 11) (oi := { dst := some 87, op := Go.Op.load 22 (Go.Operand.tmp 86), type := 22, pos := "law.go:46", after := #[{ on := 10, ground := Go.Ground.data }, { on := 5, ground := Go.Ground.guard }], guard := some (5, false) }) (v := ?vv89) rfl (by kernel_rfl) (by kernel_rfl) (by kernel_rfl) (fun _ _ _ h => h) (Or.inl ⟨by rfl, ?hy89⟩) (by assumption) ?rr89
                      case hy89 => intro w hSw; (try dsimp only at hSw); go_simp; all_goals with_reducible rfl
                      try simp only [Act.put, List.setIfInBounds_toArray, List.set_cons_zero, List.set_cons_succ]
                      refine wpAnyH_take (i := 12) (oi := { dst := some 88, op := Go.Op.call { callee := Go.Callee.builtin Go.Builtin.len, args := #[Go.Operand.tmp 87], argTypes := #[22] }, type := 3, pos := "law.go:46", after := #[{ on := 11, ground := Go.Ground.data }, { on := 5, ground := Go.Ground.guard }], guard := some (5, false) }) (v := ?vv90) rfl (by kernel_rfl) (by kernel_rfl) (by kernel_rfl) (fun _ _ _ h => h) (Or.inl ⟨by rfl, ?hy90⟩) (by assumption) ?rr90
                      case hy90 => intro w hSw; (try dsimp only at hSw); go_simp; all_goals with_reducible rfl
                      try simp only [Act.put, List.setIfInBounds_toArray, List.set_cons_zero, List.set_cons_succ]
                      refine wpAnyH_take (i := 13) (oi := { dst := some 89, op := Go.Op.binOp Go.BinOp.geq 3 (Go.Operand.tmp 85) (Go.Operand.tmp 88) 3, type := 4, pos := "law.go:46", after := #[{ on := 9, ground := Go.Ground.data }, { on := 12, ground := Go.Ground.data }, { on := 5, ground := Go.Ground.guard }], guard := some (5, false) }) (v := ?vv91) rfl (by kernel_rfl) (by kernel_rfl) (by kernel_rfl) (fun _ _ _ h => h) (Or.inl ⟨by rfl, ?hy91⟩) (by assumption) ?rr91
                      case hy91 => intro w hSw; (try dsimp only at hSw); go_simp; all_goals with_reducible rfl
                      try simp only [Act.put, List.setIfInBounds_toArray, List.set_cons_zero, List.set_cons_succ]
                      refine wpAnyH_take (i := 14) (oi := { dst := some 90, op := Go.Op.pick (Go.Operand.tmp 81) (Go.Operand.const (Go.Value.bool true)) (Go.Operand.tmp 89), type := 4, pos := "law.go:46", after := #[{ on := 5, ground := Go.Ground.data }, { on := 13, ground := Go.Ground.data }], guard := none }) (v := ?vv92) rfl (by kernel_rfl) (by kernel_rfl) (by kernel_rfl) (fun _ _ _ h => h) (Or.inl ⟨by rfl, ?hy92⟩) (by assumption) ?rr92
                      case hy92 => intro w hSw; (try dsimp only at hSw); go_simp; all_goals with_reducible rfl
                      try simp only [Act.put, List.setIfInBounds_toArray, List.set_cons_zero, List.set_cons_succ]
                      refine wpAnyH_take (i := 15) (oi := { dst := some 91, op := Go.Op.move (Go.Operand.tmp 90), type := 4, pos := "law.go:46", after := #[{ on := 14, ground := Go.Ground.data }, { on := 5, ground := Go.Ground.chain }], guard := none }) (v := ?vv93) rfl (by kernel_rfl) (by kernel_rfl) (by kernel_rfl) (fun _ _ _ h => h) (Or.inl ⟨by rfl, ?hy93⟩) (by assumption) ?rr93
                      case hy93 => intro w hSw; (try dsimp only at hSw); go_simp; all_goals with_reducible rfl
                      try simp only [Act.put, List.setIfInBounds_toArray, List.set_cons_zero, List.set_cons_succ]
                      refine wpAnyH_take (i := 16) (oi := { dst := some 92, op := Go.Op.move (Go.Operand.tmp 8), type := 3, pos := "law.go:46", after := #[{ on := 15, ground := Go.Ground.guard }], guard := some (15, false) }) (v := ?vv94) rfl (by kernel_rfl) (by kernel_rfl) (by kernel_rfl) (fun _ _ _ h => h) (Or.inl ⟨by rfl, ?hy94⟩) (by assumption) ?rr94
                      case hy94 => intro w hSw; (try dsimp only at hSw); go_simp; all_goals with_reducible rfl
                      try simp only [Act.put, List.setIfInBounds_toArray, List.set_cons_zero, List.set_cons_succ]
                      refine wpAnyH_take (i := 17) (oi := { dst := some 93, op := Go.Op.binOp Go.BinOp.gtr 3 (Go.Operand.tmp 92) (Go.Operand.const (Go.Value.int Go.IntKind.i64 0)) 3, type := 4, pos := "law.go:46", after := #[{ on := 16, ground := Go.Ground.data }, { on := 15, ground := Go.Ground.guard }], guard := some (15, false) }) (v := ?vv95) rfl (by kernel_rfl) (by kernel_rfl) (by kernel_rfl) (fun _ _ _ h => h) (Or.inl ⟨by rfl, ?hy95⟩) (by assumption) ?rr95
                      case hy95 => intro w hSw; (try dsimp only at hSw); go_simp; all_goals with_reducible rfl
                      try simp only [Act.put, List.setIfInBounds_toArray, List.set_cons_zero, List.set_cons_succ]
                      refine wpAnyH_take (i := 18) (oi := { dst := some 94, op := Go.Op.move (Go.Operand.tmp 93), type := 4, pos := "law.go:46", after := #[{ on := 17, ground := Go.Ground.data }, { on := 15, ground := Go.Ground.chain }, { on := 15, ground := Go.Ground.guard }], guard := some (15, false) }) (v := ?vv96) rfl (by kernel_rfl) (by kernel_rfl) (by kernel_rfl) (fun _ _ _ h => h) (Or.inl ⟨by rfl, ?hy96⟩) (by assumption) ?rr96
                      case hy96 => intro w hSw; (try dsimp only at hSw); go_simp; all_goals with_reducible rfl
                      try simp only [Act.put, List.setIfInBounds_toArray, List.set_cons_zero, List.set_cons_succ]
                      refine wpAnyH_take (i := 19) (oi := { dst := some 95, op := Go.Op.move (Go.Operand.tmp 5), type := 44, pos := "law.go:46", after := #[{ on := 18, ground := Go.Ground.guard }], guard := some (18, true) }) (v := ?vv97) rfl (by kernel_rfl) (by kernel_rfl) (by kernel_rfl) (fun _ _ _ h => h) (Or.inl ⟨by rfl, ?hy97⟩) (by assumption) ?rr97
                      case hy97 => intro w hSw; (try dsimp only at hSw); go_simp; all_goals with_reducible rfl
                      try simp only [Act.put, List.setIfInBounds_toArray, List.set_cons_zero, List.set_cons_succ]
                      refine wpAnyH_take (i := 20) (oi := { dst := some 96, op := Go.Op.move (Go.Operand.tmp 8), type := 3, pos := "law.go:46", after := #[{ on := 18, ground := Go.Ground.guard }], guard := some (18, true) }) (v := ?vv98) rfl (by kernel_rfl) (by kernel_rfl) (by kernel_rfl) (fun _ _ _ h => h) (Or.inl ⟨by rfl, ?hy98⟩) (by assumption) ?rr98
                      case hy98 => intro w hSw; (try dsimp only at hSw); go_simp; all_goals with_reducible rfl
                      try simp only [Act.put, List.setIfInBounds_toArray, List.set_cons_zero, List.set_cons_succ]
                      refine wpAnyH_take (i := 21) (oi := { dst := some 97, op := Go.Op.indexAddr 44 (Go.Operand.tmp 95) (Go.Operand.tmp 96), type := 0, pos := "law.go:46", after := #[{ on := 19, ground := Go.Ground.data }, { on := 20, ground := Go.Ground.data }, { on := 18, ground := Go.Ground.guard }], guard := some (18, true) }) (v := ?vv99) rfl (by kernel_rfl) (by kernel_rfl) (by kernel_rfl) (fun _ _ _ h => h) (Or.inl ⟨by rfl, ?hy99⟩) (by assumption) ?rr99
                      case hy99 => intro w hSw; (try dsimp only at hSw); go_simp; all_goals with_reducible rfl
                      try simp only [Act.put, List.setIfInBounds_toArray, List.set_cons_zero, List.set_cons_succ]
                      refine wpAnyH_take (i := 22) (oi := { dst := some 98, op := Go.Op.load 3 (Go.Operand.tmp 97), type := 3, pos := "law.go:46", after := #[{ on := 21, ground := Go.Ground.data }, { on := 18, ground := Go.Ground.guard }], guard := some (18, true) }) (v := ?vv100) rfl (by kernel_rfl) (by kernel_rfl) (by kernel_rfl) (fun _ _ _ h => h) (Or.inl ⟨by rfl, ?hy100⟩) (by assumption) ?rr100
                      case hy100 => intro w hSw; (try dsimp only at hSw); go_simp; all_goals with_reducible rfl
                      try simp only [Act.put, List.setIfInBounds_toArray, List.set_cons_zero, List.set_cons_succ]
                      refine wpAnyH_take (i := 23) (oi := { dst := some 99, op := Go.Op.move (Go.Operand.tmp 5), type := 44, pos := "law.go:46", after := #[{ on := 18, ground := Go.Ground.guard }], guard := some (18, true) }) (v := ?vv101) rfl (by kernel_rfl) (by kernel_rfl) (by kernel_rfl) (fun _ _ _ h => h) (Or.inl ⟨by rfl, ?hy101⟩) (by assumption) ?rr101
                      case hy101 => intro w hSw; (try dsimp only at hSw); go_simp; all_goals with_reducible rfl
                      try simp only [Act.put, List.setIfInBounds_toArray, List.set_cons_zero, List.set_cons_succ]
                      refine wpAnyH_take (i := 24) (oi := { dst := some 100, op := Go.Op.move (Go.Operand.tmp 8), type := 3, pos := "law.go:46", after := #[{ on := 18, ground := Go.Ground.guard }], guard := some (18, true) }) (v := ?vv102) rfl (by kernel_rfl) (by kernel_rfl) (by kernel_rfl) (fun _ _ _ h => h) (Or.inl ⟨by rfl, ?hy102⟩) (by assumption) ?rr102
                      case hy102 => intro w hSw; (try dsimp only at hSw); go_simp; all_goals with_reducible rfl
                      try simp only [Act.put, List.setIfInBounds_toArray, List.set_cons_zero, List.set_cons_succ]
                      refine wpAnyH_take (i := 25) (oi := { dst := some 101, op := Go.Op.binOp Go.BinOp.sub 3 (Go.Operand.tmp 100) (Go.Operand.const (Go.Value.int Go.IntKind.i64 1)) 3, type := 3, pos := "law.go:46", after := #[{ on := 24, ground := Go.Ground.data }, { on := 18, ground := Go.Ground.guard }], guard := some (18, true) }) (v := ?vv103) rfl (by kernel_rfl) (by kernel_rfl) (by kernel_rfl) (fun _ _ _ h => h) (Or.inl ⟨by rfl, ?hy103⟩) (by assumption) ?rr103
                      case hy103 => intro w hSw; (try dsimp only at hSw); go_simp; all_goals with_reducible rfl
                      try simp only [Act.put, List.setIfInBounds_toArray, List.set_cons_zero, List.set_cons_succ]
                      refine wpAnyH_take (i := 26) (oi := { dst := some 102, op := Go.Op.indexAddr 44 (Go.Operand.tmp 99) (Go.Operand.tmp 101), type := 0, pos := "law.go:46", after := #[{ on := 23, ground := Go.Ground.data }, { on := 25, ground := Go.Ground.data }, { on := 18, ground := Go.Ground.guard }], guard := some (18, true) }) (v := ?vv104) rfl (by kernel_rfl) (by kernel_rfl) (by kernel_rfl) (fun _ _ _ h => h) (Or.inl ⟨by rfl, ?hy104⟩) (by assumption) ?rr104
                      case hy104 => intro w hSw; (try dsimp only at hSw); go_simp; all_goals with_reducible rfl
                      try simp only [Act.put, List.setIfInBounds_toArray, List.set_cons_zero, List.set_cons_succ]
                      refine wpAnyH_take (i := 27) (oi := { dst := some 103, op := Go.Op.load 3 (Go.Operand.tmp 102), type := 3, pos := "law.go:46", after := #[{ on := 26, ground := Go.Ground.data }, { on := 18, ground := Go.Ground.guard }], guard := some (18, true) }) (v := ?vv105) rfl (by kernel_rfl) (by kernel_rfl) (by kernel_rfl) (fun _ _ _ h => h) (Or.inl ⟨by rfl, ?hy105⟩) (by assumption) ?rr105
                      case hy105 => intro w hSw; (try dsimp only at hSw); go_simp; all_goals with_reducible rfl
                      try simp only [Act.put, List.setIfInBounds_toArray, List.set_cons_zero, List.set_cons_succ]
                      refine wpAnyH_take (i := 28) (oi := { dst := some 104, op := Go.Op.binOp Go.BinOp.leq 3 (Go.Operand.tmp 98) (Go.Operand.tmp 103) 3, type := 4, pos := "law.go:46", after := #[{ on := 22, ground := Go.Ground.data }, { on := 27, ground := Go.Ground.data }, { on := 18, ground := Go.Ground.guard }], guard := some (18, true) }) (v := ?vv106) rfl (by kernel_rfl) (by kernel_rfl) (by kernel_rfl) (fun _ _ _ h => h) (Or.inl ⟨by rfl, ?hy106⟩) (by assumption) ?rr106
                      case hy106 => intro w hSw; (try dsimp only at hSw); go_simp; all_goals with_reducible rfl
                      try simp only [Act.put, List.setIfInBounds_toArray, List.set_cons_zero, List.set_cons_succ]
                      rw [HXD.out]
                      refine wpAnyH_take (i := 29) (oi := { dst := some 105, op := Go.Op.pick (Go.Operand.tmp 94) (Go.Operand.tmp 104) (Go.Operand.const (Go.Value.bool false)), type := 4, pos := "law.go:46", after := #[{ on := 18, ground := Go.Ground.data }, { on := 28, ground := Go.Ground.data }, { on := 15, ground := Go.Ground.guard }], guard := some (15, false) }) (v := ?vv107) rfl (by kernel_rfl) (by kernel_rfl) (by kernel_rfl) (fun _ _ _ h => h) (Or.inl ⟨by rfl, ?hy107⟩) (by assumption) ?rr107
                      case hy107 => intro w hSw; (try dsimp only at hSw); go_simp; all_goals with_reducible rfl
                      try simp only [Act.put, List.setIfInBounds_toArray, List.set_cons_zero, List.set_cons_succ]
                      refine wpAnyH_take (i := 30) (oi := { dst := some 106, op := Go.Op.pick (Go.Operand.tmp 91) (Go.Operand.const (Go.Value.bool true)) (Go.Operand.tmp 105), type := 4, pos := "law.go:46", after := #[{ on := 15, ground := Go.Ground.data }, { on := 29, ground := Go.Ground.data }], guard := none }) (v := ?vv108) rfl (by kernel_rfl) (by kernel_rfl) (by kernel_rfl) (fun _ _ _ h => h) (Or.inl ⟨by rfl, ?hy108⟩) (by assumption) ?rr108
                      case hy108 => intro w hSw; (try dsimp only at hSw); go_simp; all_goals with_reducible rfl
                      try simp only [Act.put, List.setIfInBounds_toArray, List.set_cons_zero, List.set_cons_succ]
                      refine wpAnyH_take (i := 31) (oi := { dst := some 107, op := Go.Op.move (Go.Operand.tmp 106), type := 4, pos := "law.go:46", after := #[{ on := 30, ground := Go.Ground.data }, { on := 18, ground := Go.Ground.chain }], guard := none }) (v := ?vv109) rfl (by kernel_rfl) (by kernel_rfl) (by kernel_rfl) (fun _ _ _ h => h) (Or.inl ⟨by rfl, ?hy109⟩) (by assumption) ?rr109
                      case hy109 => intro w hSw; (try dsimp only at hSw); go_simp; all_goals with_reducible rfl
                      try simp only [Act.put, List.setIfInBounds_toArray, List.set_cons_zero, List.set_cons_succ]
                      refine wpAnyH_take (i := 32) (oi := { dst := some 108, op := Go.Op.move (Go.Operand.tmp 5), type := 44, pos := "law.go:46", after := #[{ on := 31, ground := Go.Ground.guard }], guard := some (31, false) }) (v := ?vv110) rfl (by kernel_rfl) (by kernel_rfl) (by kernel_rfl) (fun _ _ _ h => h) (Or.inl ⟨by rfl, ?hy110⟩) (by assumption) ?rr110
                      case hy110 => intro w hSw; (try dsimp only at hSw); go_simp; all_goals with_reducible rfl
                      try simp only [Act.put, List.setIfInBounds_toArray, List.set_cons_zero, List.set_cons_succ]
                      refine wpAnyH_take (i := 33) (oi := { dst := some 109, op := Go.Op.load 24 (Go.Operand.tmp 2), type := 24, pos := "law.go:46", after := #[{ on := 31, ground := Go.Ground.guard }], guard := some (31, false) }) (v := ?vv111) rfl (by kernel_rfl) (by kernel_rfl) (by kernel_rfl) (fun _ _ _ h => h) (Or.inl ⟨by rfl, ?hy111⟩) (by assumption) ?rr111
                      case hy111 => intro w hSw; (try dsimp only at hSw); go_simp; all_goals with_reducible rfl
                      try simp only [Act.put, List.setIfInBounds_toArray, List.set_cons_zero, List.set_cons_succ]
                      refine wpAnyH_take (i := 34) (oi := { dst := some 110, op := Go.Op.fieldAddr 24 (Go.Operand.tmp 2) 0, type := 0, pos := "law.go:46", after := #[{ on := 31, ground := Go.Ground.guard }], guard := some (31, false) }) (v := ?vv112) rfl (by kernel_rfl) (by kernel_rfl) (by kernel_rfl) (fun _ _ _ h => h) (Or.inl ⟨by rfl, ?hy112⟩) (by assumption) ?rr112
                      case hy112 => intro w hSw; (try dsimp only at hSw); go_simp; all_goals with_reducible rfl
                      try simp only [Act.put, List.setIfInBounds_toArray, List.set_cons_zero, List.set_cons_succ]
                      refine wpAnyH_take (i := 35) (oi := { dst := some 111, op := Go.Op.load 22 (Go.Operand.tmp 110), type := 22, pos := "law.go:46", after := #[{ on := 34, ground := Go.Ground.data }, { on := 31, ground := Go.Ground.guard }], guard := some (31, false) }) (v := ?vv113) rfl (by kernel_rfl) (by kernel_rfl) (by kernel_rfl) (fun _ _ _ h => h) (Or.inl ⟨by rfl, ?hy113⟩) (by assumption) ?rr113
                      case hy113 => intro w hSw; (try dsimp only at hSw); go_simp; all_goals with_reducible rfl
                      try simp only [Act.put, List.setIfInBounds_toArray, List.set_cons_zero, List.set_cons_succ]
                      refine wpAnyH_take (i := 36) (oi := { dst := some 112, op := Go.Op.move (Go.Operand.tmp 5), type := 44, pos := "law.go:46", after := #[{ on := 31, ground := Go.Ground.guard }], guard := some (31, false) }) (v := ?vv114) rfl (by kernel_rfl) (by kernel_rfl) (by kernel_rfl) (fun _ _ _ h => h) (Or.inl ⟨by rfl, ?hy114⟩) (by assumption) ?rr114
                      case hy114 => intro w hSw; (try dsimp only at hSw); go_simp; all_goals with_reducible rfl
                      try simp only [Act.put, List.setIfInBounds_toArray, List.set_cons_zero, List.set_cons_succ]
                      refine wpAnyH_take (i := 37) (oi := { dst := some 113, op := Go.Op.move (Go.Operand.tmp 8), type := 3, pos := "law.go:46", after := #[{ on := 31, ground := Go.Ground.guard }], guard := some (31, false) }) (v := ?vv115) rfl (by kernel_rfl) (by kernel_rfl) (by kernel_rfl) (fun _ _ _ h => h) (Or.inl ⟨by rfl, ?hy115⟩) (by assumption) ?rr115
                      case hy115 => intro w hSw; (try dsimp only at hSw); go_simp; all_goals with_reducible rfl
                      try simp only [Act.put, List.setIfInBounds_toArray, List.set_cons_zero, List.set_cons_succ]
                      refine wpAnyH_take (i := 38) (oi := { dst := some 114, op := Go.Op.indexAddr 44 (Go.Operand.tmp 112) (Go.Operand.tmp 113), type := 0, pos := "law.go:46", after := #[{ on := 36, ground := Go.Ground.data }, { on := 37, ground := Go.Ground.data }, { on := 31, ground := Go.Ground.guard }], guard := some (31, false) }) (v := ?vv116) rfl (by kernel_rfl) (by kernel_rfl) (by kernel_rfl) (fun _ _ _ h => h) (Or.inl ⟨by rfl, ?hy116⟩) (by assumption) ?rr116
                      case hy116 => intro w hSw; (try dsimp only at hSw); go_simp; all_goals with_reducible rfl
                      try simp only [Act.put, List.setIfInBounds_toArray, List.set_cons_zero, List.set_cons_succ]
                      refine wpAnyH_take (i := 39) (oi := { dst := some 115, op := Go.Op.load 3 (Go.Operand.tmp 114), type := 3, pos := "law.go:46", after := #[{ on := 38, ground := Go.Ground.data }, { on := 31, ground := Go.Ground.guard }], guard := some (31, false) }) (v := ?vv117) rfl (by kernel_rfl) (by kernel_rfl) (by kernel_rfl) (fun _ _ _ h => h) (Or.inl ⟨by rfl, ?hy117⟩) (by assumption) ?rr117
                      case hy117 => intro w hSw; (try dsimp only at hSw); go_simp; all_goals with_reducible rfl
                      try simp only [Act.put, List.setIfInBounds_toArray, List.set_cons_zero, List.set_cons_succ]
                      refine wpAnyH_take (i := 40) (oi := { dst := some 116, op := Go.Op.indexAddr 22 (Go.Operand.tmp 111) (Go.Operand.tmp 115), type := 0, pos := "law.go:46", after := #[{ on := 35, ground := Go.Ground.data }, { on := 39, ground := Go.Ground.data }, { on := 31, ground := Go.Ground.guard }], guard := some (31, false) }) (v := ?vv118) rfl (by kernel_rfl) (by kernel_rfl) (by kernel_rfl) (fun _ _ _ h => h) (Or.inl ⟨by rfl, ?hy118⟩) (by assumption) ?rr118
                      case hy118 => intro w hSw; (try dsimp only at hSw); go_simp; all_goals with_reducible rfl
                      try simp only [Act.put, List.setIfInBounds_toArray, List.set_cons_zero, List.set_cons_succ]
                      refine wpAnyH_take (i := 41) (oi := { dst := some 117, op := Go.Op.fieldAddr 46 (Go.Operand.tmp 116) 0, type := 0, pos := "law.go:46", after := #[{ on := 40, ground := Go.Ground.data }, { on := 31, ground := Go.Ground.guard }], guard := some (31, false) }) (v := ?vv119) rfl (by kernel_rfl) (by kernel_rfl) (by kernel_rfl) (fun _ _ _ h => h) (Or.inl ⟨by rfl, ?hy119⟩) (by assumption) ?rr119
                      case hy119 => intro w hSw; (try dsimp only at hSw); go_simp; all_goals with_reducible rfl
                      try simp only [Act.put, List.setIfInBounds_toArray, List.set_cons_zero, List.set_cons_succ]
                      refine wpAnyH_take (i := 42) (oi := { dst := some 118, op := Go.Op.load 3 (Go.Operand.tmp 117), type := 3, pos := "law.go:46", after := #[{ on := 41, ground := Go.Ground.data }, { on := 31, ground := Go.Ground.guard }], guard := some (31, false) }) (v := ?vv120) rfl (by kernel_rfl) (by kernel_rfl) (by kernel_rfl) (fun _ _ _ h => h) (Or.inl ⟨by rfl, ?hy120⟩) (by assumption) ?rr120
                      case hy120 => intro w hSw; (try dsimp only at hSw); go_simp; all_goals with_reducible rfl
                      try simp only [Act.put, List.setIfInBounds_toArray, List.set_cons_zero, List.set_cons_succ]
                      refine wpAnyH_ready (rs := [43]) (by kernel_rfl) (by simp) ?_
                      refine AllReadyH.cons (i := 43) (o := { dst := some 119, op := Go.Op.call { callee := Go.Callee.value (Go.Operand.func 33), args := #[Go.Operand.tmp 109, Go.Operand.tmp 118], argTypes := #[24, 3] }, type := 3, pos := "law.go:46", after := #[{ on := 33, ground := Go.Ground.data }, { on := 42, ground := Go.Ground.data }, { on := 31, ground := Go.Ground.chain }, { on := 31, ground := Go.Ground.guard }], guard := some (31, false) }) rfl (fun K hK => ?_) AllReadyH.nil
                      go_simp
                      go_at_call 33
                      refine (rref_any h o.cls (some ⟨b, off, none⟩) c _).mono ?_
                      rintro e w' ⟨rfl, hb⟩
                      rw [rv]
                      refine hK.out _ _ ?_ (fun hHeld => ?_)
                      · exact ⟨cell_later hb x0, cell_later hb x1, cell_later hb x2, cell_later hb lc, cell_later hb e0, cell_later hb pc, draw_then (Below.refl _ _).drew hb⟩
                      clear hK K
                      try simp only [Act.put, List.setIfInBounds_toArray, List.set_cons_zero, List.set_cons_succ]
                      have hH1 := hHeld
                      clear hHeld hb
                      have hHeld := hH1
                      refine wpAnyH_ready (rs := [44]) (by kernel_rfl) (by simp) ?_
                      refine AllReadyH.cons (i := 44) (o := { dst := some 120, op := Go.Op.call { callee := Go.Callee.value (Go.Operand.func 41), args := #[Go.Operand.tmp 108, Go.Operand.tmp 119], argTypes := #[44, 3] }, type := 4, pos := "law.go:46", after := #[{ on := 32, ground := Go.Ground.data }, { on := 43, ground := Go.Ground.data }, { on := 43, ground := Go.Ground.chain }, { on := 31, ground := Go.Ground.guard }], guard := some (31, false) }) rfl (fun K hK => ?_) AllReadyH.nil
                      go_simp
                      go_at_call 41
                      refine (in_any (liveL h rs) y (some ⟨bl, ol, none⟩) c4 _ (HI.out.below ((hH1.2.2.2.2.2.2))) (by omega)).mono ?_
                      rintro e w' ⟨rfl, hb⟩
                      rw [hne]
                      refine hK.out _ _ ?_ (fun hHeld => ?_)
                      · exact ⟨cell_later hb hH1.1, cell_later hb hH1.2.1, cell_later hb hH1.2.2.1, cell_later hb hH1.2.2.2.1, cell_later hb hH1.2.2.2.2.1, cell_later hb hH1.2.2.2.2.2.1, hH1.2.2.2.2.2.2.trans (hb.mono hH1.2.2.2.2.2.2.size)⟩
                      clear hK K
                      try simp only [Act.put, List.setIfInBounds_toArray, List.set_cons_zero, List.set_cons_succ]
                      have hH2 := hHeld
                      clear hHeld hb
                      have hHeld := hH2
                      refine wpAnyH_take (i := 45) (oi := { dst := some 121, op := Go.Op.unOp Go.UnOp.not 4 (Go.Operand.tmp 120), type := 4, pos := "law.go:46", after := #[{ on := 44, ground := Go.Ground.data }, { on := 31, ground := Go.Ground.guard }], guard := some (31, false) }) (v := ?vv121) rfl (by kernel_rfl) (by kernel_rfl) (by kernel_rfl) (fun _ _ _ h => h) (Or.inl ⟨by rfl, ?hy121⟩) (by assumption) ?rr121
                      case hy121 => intro w hSw; (try dsimp only at hSw); go_simp; all_goals with_reducible rfl
                      try simp only [Act.put, List.setIfInBounds_toArray, List.set_cons_zero, List.set_cons_succ]
                      refine wpAnyH_take (i := 46) (oi := { dst := some 122, op := Go.Op.pick (Go.Operand.tmp 107) (Go.Operand.const (Go.Value.bool true)) (Go.Operand.tmp 121), type := 4, pos := "law.go:46", after := #[{ on := 31, ground := Go.Ground.data }, { on := 45, ground := Go.Ground.data }], guard := none }) (v := ?vv122) rfl (by kernel_rfl) (by kernel_rfl) (by kernel_rfl) (fun _ _ _ h => h) (Or.inl ⟨by rfl, ?hy122⟩) (by assumption) ?rr122
                      case hy122 => intro w hSw; (try dsimp only at hSw); go_simp; all_goals with_reducible rfl
                      try simp only [Act.put, List.setIfInBounds_toArray, List.set_cons_zero, List.set_cons_succ]
                      refine wpAnyH_done (by kernel_rfl) ?_ _
                      have hHeldB := hHeld.2.2.2.2.2.2
                      go_wp2_with fail
                      go_loopw [9] (fun i' wr' => ∃ j : Nat, j ≤ o.slots.length ∧ i' = .int .i64 j ∧ Below wo.heap.size wo wr') (fun i' _ => o.slots.length - (intOf i').toNat)
                      case atStart => exact ⟨0, Nat.zero_le _, rfl, hHeldB⟩
                      case round =>
                        obtain ⟨j, hj, rfl, hbw⟩ := hrel
                        have HW2 := hid hbw
                        have x0' := cell_later hbw x0
                        have x1' := cell_later hbw x1
                        have x2' := cell_later hbw x2
                        have lc' := cell_later hbw lc
                        have e2' := cell_later hbw e2
                        clear hbw
                        by_cases hjl : j < o.slots.length
                        · obtain ⟨bt, ot, rfl, hbt, hct⟩ := HIN2 (by omega)
                          have sc := cell_later HW2.out (hct j _ (List.getElem?_eq_getElem hjl))
                          have hsv := HSV.out _ (List.getElem_mem hjl)
                          obtain ⟨v, hv⟩ : ∃ v, v = o.slots[j] := ⟨_, rfl⟩
                          rw [← hv] at sc hsv
                          have HSV2 := hid hsv
                          clear hct hv hsv
                          go_wp2_with fail
                          go_quiet (fail)
                          go_wp2_with fail
                          cases hrv : refB h.objs.length v
                          · have rv2 : refI h.objs.length v = -1 := refI_no hrv
                            refine wp_region_held_drew (S := (fun w' => w'.cell? ⟨w.heap.size, 0, none⟩ = some (.slice (some ⟨b, off, none⟩) h.objs.length c) ∧ w'.cell? ⟨w.heap.size, 1, none⟩ = some (.int .i64 h.cap) ∧ w'.cell? ⟨w.heap.size, 2, none⟩ = some (.int .i64 h.last) ∧ w'.cell? ⟨bl, ol + (m + 1), none⟩ = some (.int .i64 i) ∧ w'.cell? ⟨b, off + i * 6 + 2, none⟩ = some (.slice (some ⟨bt, ot, none⟩) o.slots.length ds) ∧ w'.cell? ⟨bt, ot + j, none⟩ = some (.int .i64 v) ∧ Below wr.heap.size wr w')) (by kernel_rfl) ?_ (fun hHeld => ?_)
                            · exact ⟨x0', x1', x2', lc', e2', sc, (below_drewN _ _).drew⟩
                            refine wpAnyH_take (i := 0) (oi := { dst := some 137, op := Go.Op.load 24 (Go.Operand.tmp 2), type := 24, pos := "law.go:50", after := #[], guard := none }) (v := ?vv179) rfl (by kernel_rfl) (by kernel_rfl) (by kernel_rfl) (fun _ _ _ h => h) (Or.inl ⟨by rfl, ?hy179⟩) (by assumption) ?rr179
                            case hy179 => intro w hSw; (try dsimp only at hSw); go_simp; all_goals with_reducible rfl
                            try simp only [Act.put, List.setIfInBounds_toArray, List.set_cons_zero, List.set_cons_succ]
                            refine wpAnyH_take (i := 1) (oi := { dst := some 138, op := Go.Op.fieldAddr 24 (Go.Operand.tmp 2) 0, type := 0, pos := "law.go:50", after := #[], guard := none }) (v := ?vv180) rfl (by kernel_rfl) (by kernel_rfl) (by kernel_rfl) (fun _ _ _ h => h) (Or.inl ⟨by rfl, ?hy180⟩) (by assumption) ?rr180
                            case hy180 => intro w hSw; (try dsimp only at hSw); go_simp; all_goals with_reducible rfl
                            try simp only [Act.put, List.setIfInBounds_toArray, List.set_cons_zero, List.set_cons_succ]
                            refine wpAnyH_take (i := 2) (oi := { dst := some 139, op := Go.Op.load 22 (Go.Operand.tmp 138), type := 22, pos := "law.go:50", after := #[{ on := 1, ground := Go.Ground.data }], guard := none }) (v := ?vv181) rfl (by kernel_rfl) (by kernel_rfl) (by kernel_rfl) (fun _ _ _ h => h) (Or.inl ⟨by rfl, ?hy181⟩) (by assumption) ?rr181
                            case hy181 => intro w hSw; (try dsimp only at hSw); go_simp; all_goals with_reducible rfl
                            try simp only [Act.put, List.setIfInBounds_toArray, List.set_cons_zero, List.set_cons_succ]
                            refine wpAnyH_take (i := 3) (oi := { dst := some 140, op := Go.Op.move (Go.Operand.tmp 5), type := 44, pos := "law.go:50", after := #[], guard := none }) (v := ?vv182) rfl (by kernel_rfl) (by kernel_rfl) (by kernel_rfl) (fun _ _ _ h => h) (Or.inl ⟨by rfl, ?hy182⟩) (by assumption) ?rr182
                            case hy182 => intro w hSw; (try dsimp only at hSw); go_simp; all_goals with_reducible rfl
                            try simp only [Act.put, List.setIfInBounds_toArray, List.set_cons_zero, List.set_cons_succ]
                            refine wpAnyH_take (i := 4) (oi := { dst := some 141, op := Go.Op.move (Go.Operand.tmp 8), type := 3, pos := "law.go:50", after := #[], guard := none }) (v := ?vv183) rfl (by kernel_rfl) (by kernel_rfl) (by kernel_rfl) (fun _ _ _ h => h) (Or.inl ⟨by rfl, ?hy183⟩) (by assumption) ?rr183
                            case hy183 => intro w hSw; (try dsimp only at hSw); go_simp; all_goals with_reducible rfl
                            try simp only [Act.put, List.setIfInBounds_toArray, List.set_cons_zero, List.set_cons_succ]
                            refine wpAnyH_take (i := 5) (oi := { dst := some 142, op := Go.Op.indexAddr 44 (Go.Operand.tmp 140) (Go.Operand.tmp 141), type := 0, pos := "law.go:50", after := #[{ on := 3, ground := Go.Ground.data }, { on := 4, ground := Go.Ground.data }], guard := none }) (v := ?vv184) rfl (by kernel_rfl) (by kernel_rfl) (by kernel_rfl) (fun _ _ _ h => h) (Or.inl ⟨by rfl, ?hy184⟩) (by assumption) ?rr184
                            case hy184 => intro w hSw; (try dsimp only at hSw); go_simp; all_goals with_reducible rfl
                            try simp only [Act.put, List.setIfInBounds_toArray, List.set_cons_zero, List.set_cons_succ]
                            refine wpAnyH_take (i := 6) (oi := { dst := some 143, op := Go.Op.load 3 (Go.Operand.tmp 142), type := 3, pos := "law.go:50", after := #[{ on := 5, ground := Go.Ground.data }], guard := none }) (v := ?vv185) rfl (by kernel_rfl) (by kernel_rfl) (by kernel_rfl) (fun _ _ _ h => h) (Or.inl ⟨by rfl, ?hy185⟩) (by assumption) ?rr185
                            case hy185 => intro w hSw; (try dsimp only at hSw); go_simp; all_goals with_reducible rfl
                            try simp only [Act.put, List.setIfInBounds_toArray, List.set_cons_zero, List.set_cons_succ]
                            refine wpAnyH_take (i := 7) (oi := { dst := some 144, op := Go.Op.indexAddr 22 (Go.Operand.tmp 139) (Go.Operand.tmp 143), type := 0, pos := "law.go:50", after := #[{ on := 2, ground := Go.Ground.data }, { on := 6, ground := Go.Ground.data }], guard := none }) (v := ?vv186) rfl (by kernel_rfl) (by kernel_rfl) (by kernel_rfl) (fun _ _ _ h => h) (Or.inl ⟨by rfl, ?hy186⟩) (by assumption) ?rr186
                            case hy186 => intro w hSw; (try dsimp only at hSw); go_simp; all_goals with_reducible rfl
                            try simp only [Act.put, List.setIfInBounds_toArray, List.set_cons_zero, List.set_cons_succ]
                            refine wpAnyH_take (i := 8) (oi := { dst := some 145, op := Go.Op.fieldAddr 46 (Go.Operand.tmp 144) 2, type := 0, pos := "law.go:50", after := #[{ on := 7, ground := Go.Ground.data }], guard := none }) (v := ?vv187) rfl (by kernel_rfl) (by kernel_rfl) (by kernel_rfl) (fun _ _ _ h => h) (Or.inl ⟨by rfl, ?hy187⟩) (by assumption) ?rr187
                            case hy187 => intro w hSw; (try dsimp only at hSw); go_simp; all_goals with_reducible rfl
                            try simp only [Act.put, List.setIfInBounds_toArray, List.set_cons_zero, List.set_cons_succ]
                            refine wpAnyH_take (i := 9) (oi := { dst := some 146, op := Go.Op.load 44 (Go.Operand.tmp 145), type := 44, pos := "law.go:50", after := #[{ on := 8, ground := Go.Ground.data }], guard := none }) (v := ?vv188) rfl (by kernel_rfl) (by kernel_rfl) (by kernel_rfl) (fun _ _ _ h => h) (Or.inl ⟨by rfl, ?hy188⟩) (by assumption) ?rr188
                            case hy188 => intro w hSw; (try dsimp only at hSw); go_simp; all_goals with_reducible rfl
                            try simp only [Act.put, List.setIfInBounds_toArray, List.set_cons_zero, List.set_cons_succ]
                            refine wpAnyH_take (i := 10) (oi := { dst := some 147, op := Go.Op.move (Go.Operand.tmp 9), type := 3, pos := "law.go:50", after := #[], guard := none }) (v := ?vv189) rfl (by kernel_rfl) (by kernel_rfl) (by kernel_rfl) (fun _ _ _ h => h) (Or.inl ⟨by rfl, ?hy189⟩) (by assumption) ?rr189
                            case hy189 => intro w hSw; (try dsimp only at hSw); go_simp; all_goals with_reducible rfl
                            try simp only [Act.put, List.setIfInBounds_toArray, List.set_cons_zero, List.set_cons_succ]
                            refine wpAnyH_take (i := 11) (oi := { dst := some 148, op := Go.Op.indexAddr 44 (Go.Operand.tmp 146) (Go.Operand.tmp 147), type := 0, pos := "law.go:50", after := #[{ on := 9, ground := Go.Ground.data }, { on := 10, ground := Go.Ground.data }], guard := none }) (v := ?vv190) rfl (by kernel_rfl) (by kernel_rfl) (by kernel_rfl) (fun _ _ _ h => h) (Or.inl ⟨by rfl, ?hy190⟩) (by assumption) ?rr190
                            case hy190 => intro w hSw; (try dsimp only at hSw); go_simp; all_goals with_reducible rfl
                            try simp only [Act.put, List.setIfInBounds_toArray, List.set_cons_zero, List.set_cons_succ]
                            refine wpAnyH_take (i := 12) (oi := { dst := some 149, op := Go.Op.load 3 (Go.Operand.tmp 148), type := 3, pos := "law.go:50", after := #[{ on := 11, ground := Go.Ground.data }], guard := none }) (v := ?vv191) rfl (by kernel_rfl) (by kernel_rfl) (by kernel_rfl) (fun _ _ _ h => h) (Or.inl ⟨by rfl, ?hy191⟩) (by assumption) ?rr191
                            case hy191 => intro w hSw; (try dsimp only at hSw); go_simp; all_goals with_reducible rfl
                            try simp only [Act.put, List.setIfInBounds_toArray, List.set_cons_zero, List.set_cons_succ]
                            refine wpAnyH_ready (rs := [13]) (by kernel_rfl) (by simp) ?_
                            refine AllReadyH.cons (i := 13) (o := { dst := some 150, op := Go.Op.call { callee := Go.Callee.value (Go.Operand.func 33), args := #[Go.Operand.tmp 137, Go.Operand.tmp 149], argTypes := #[24, 3] }, type := 3, pos := "law.go:50", after := #[{ on := 0, ground := Go.Ground.data }, { on := 12, ground := Go.Ground.data }], guard := none }) rfl (fun K hK => ?_) AllReadyH.nil
                            go_simp
                            go_at_call 33
                            refine (rref_any h v (some ⟨b, off, none⟩) c _).mono ?_
                            rintro e w' ⟨rfl, hb⟩
                            rw [rv2]
                            refine hK.out _ _ ?_ (fun hHeld => ?_)
                            · exact ⟨cell_later hb x0', cell_later hb x1', cell_later hb x2', cell_later hb lc', cell_later hb e2', cell_later hb sc, draw_then (below_drewN _ _).drew hb⟩
                            clear hK K
                            try simp only [Act.put, List.setIfInBounds_toArray, List.set_cons_zero, List.set_cons_succ]
                            have hH1 := hHeld
                            clear hHeld hb
                            have hHeld := hH1
                            refine wpAnyH_take (i := 14) (oi := { dst := some 10, op := Go.Op.assign (Go.Operand.tmp 150), type := 3, pos := "law.go:50", after := #[{ on := 13, ground := Go.Ground.data }, { on := 13, ground := Go.Ground.chain }, { on := 0, ground := Go.Ground.phase }, { on := 1, ground := Go.Ground.phase }, { on := 2, ground := Go.Ground.phase }, { on := 3, ground := Go.Ground.phase }, { on := 4, ground := Go.Ground.phase }, { on := 5, ground := Go.Ground.phase }, { on := 6, ground := Go.Ground.phase }, { on := 7, ground := Go.Ground.phase }, { on := 8, ground := Go.Ground.phase }, { on := 9, ground := Go.Ground.phase }, { on := 10, ground := Go.Ground.phase }, { on := 11, ground := Go.Ground.phase }, { on := 12, ground := Go.Ground.phase }, { on := 13, ground := Go.Ground.phase }], guard := none }) (v := ?vv192) rfl (by kernel_rfl) (by kernel_rfl) (by kernel_rfl) (fun _ _ _ h => h) (Or.inl ⟨by rfl, ?hy192⟩) (by assumption) ?rr192
                            case hy192 => intro w hSw; (try dsimp only at hSw); go_simp; all_goals with_reducible rfl
                            try simp only [Act.put, List.setIfInBounds_toArray, List.set_cons_zero, List.set_cons_succ]
                            refine wpAnyH_done (by kernel_rfl) ?_ _
                            have hHeldC := hHeld.2.2.2.2.2.2
                            go_wp2_with fail
                            go_roundw
                            case rel => exact ⟨j + 1, by omega, by go_num, HW2.out.trans (hHeldC.mono HW2.out.size)⟩
                            case measure => simp [intOf]; omega
                          · obtain ⟨q, hq⟩ : ∃ q : Nat, atV v = q := ⟨_, (refB_nat hrv).2.symm⟩
                            have rv2 : refI h.objs.length v = q := by rw [refI_nonneg hrv, hq]
                            have hqm : decide ((q : Int) ∈ liveL h rs) = true := decide_eq_true (by rw [← rv2]; exact HSV2.out hrv)
                            refine wp_region_held_drew (S := (fun w' => w'.cell? ⟨w.heap.size, 0, none⟩ = some (.slice (some ⟨b, off, none⟩) h.objs.length c) ∧ w'.cell? ⟨w.heap.size, 1, none⟩ = some (.int .i64 h.cap) ∧ w'.cell? ⟨w.heap.size, 2, none⟩ = some (.int .i64 h.last) ∧ w'.cell? ⟨bl, ol + (m + 1), none⟩ = some (.int .i64 i) ∧ w'.cell? ⟨b, off + i * 6 + 2, none⟩ = some (.slice (some ⟨bt, ot, none⟩) o.slots.length ds) ∧ w'.cell? ⟨bt, ot + j, none⟩ = some (.int .i64 v) ∧ Below wr.heap.size wr w')) (by kernel_rfl) ?_ (fun hHeld => ?_)
                            · exact ⟨x0', x1', x2', lc', e2', sc, (below_drewN _ _).drew⟩
                            refine wpAnyH_take (i := 0) (oi := { dst := some 137, op := Go.Op.load 24 (Go.Operand.tmp 2), type := 24, pos := "law.go:50", after := #[], guard := none }) (v := ?vv193) rfl (by kernel_rfl) (by kernel_rfl) (by kernel_rfl) (fun _ _ _ h => h) (Or.inl ⟨by rfl, ?hy193⟩) (by assumption) ?rr193
                            case hy193 => intro w hSw; (try dsimp only at hSw); go_simp; all_goals with_reducible rfl
                            try simp only [Act.put, List.setIfInBounds_toArray, List.set_cons_zero, List.set_cons_succ]
                            refine wpAnyH_take (i := 1) (oi := { dst := some 138, op := Go.Op.fieldAddr 24 (Go.Operand.tmp 2) 0, type := 0, pos := "law.go:50", after := #[], guard := none }) (v := ?vv194) rfl (by kernel_rfl) (by kernel_rfl) (by kernel_rfl) (fun _ _ _ h => h) (Or.inl ⟨by rfl, ?hy194⟩) (by assumption) ?rr194
                            case hy194 => intro w hSw; (try dsimp only at hSw); go_simp; all_goals with_reducible rfl
                            try simp only [Act.put, List.setIfInBounds_toArray, List.set_cons_zero, List.set_cons_succ]
                            refine wpAnyH_take (i := 2) (oi := { dst := some 139, op := Go.Op.load 22 (Go.Operand.tmp 138), type := 22, pos := "law.go:50", after := #[{ on := 1, ground := Go.Ground.data }], guard := none }) (v := ?vv195) rfl (by kernel_rfl) (by kernel_rfl) (by kernel_rfl) (fun _ _ _ h => h) (Or.inl ⟨by rfl, ?hy195⟩) (by assumption) ?rr195
                            case hy195 => intro w hSw; (try dsimp only at hSw); go_simp; all_goals with_reducible rfl
                            try simp only [Act.put, List.setIfInBounds_toArray, List.set_cons_zero, List.set_cons_succ]
                            refine wpAnyH_take (i := 3) (oi := { dst := some 140, op := Go.Op.move (Go.Operand.tmp 5), type := 44, pos := "law.go:50", after := #[], guard := none }) (v := ?vv196) rfl (by kernel_rfl) (by kernel_rfl) (by kernel_rfl) (fun _ _ _ h => h) (Or.inl ⟨by rfl, ?hy196⟩) (by assumption) ?rr196
                            case hy196 => intro w hSw; (try dsimp only at hSw); go_simp; all_goals with_reducible rfl
                            try simp only [Act.put, List.setIfInBounds_toArray, List.set_cons_zero, List.set_cons_succ]
                            refine wpAnyH_take (i := 4) (oi := { dst := some 141, op := Go.Op.move (Go.Operand.tmp 8), type := 3, pos := "law.go:50", after := #[], guard := none }) (v := ?vv197) rfl (by kernel_rfl) (by kernel_rfl) (by kernel_rfl) (fun _ _ _ h => h) (Or.inl ⟨by rfl, ?hy197⟩) (by assumption) ?rr197
                            case hy197 => intro w hSw; (try dsimp only at hSw); go_simp; all_goals with_reducible rfl
                            try simp only [Act.put, List.setIfInBounds_toArray, List.set_cons_zero, List.set_cons_succ]
                            refine wpAnyH_take (i := 5) (oi := { dst := some 142, op := Go.Op.indexAddr 44 (Go.Operand.tmp 140) (Go.Operand.tmp 141), type := 0, pos := "law.go:50", after := #[{ on := 3, ground := Go.Ground.data }, { on := 4, ground := Go.Ground.data }], guard := none }) (v := ?vv198) rfl (by kernel_rfl) (by kernel_rfl) (by kernel_rfl) (fun _ _ _ h => h) (Or.inl ⟨by rfl, ?hy198⟩) (by assumption) ?rr198
                            case hy198 => intro w hSw; (try dsimp only at hSw); go_simp; all_goals with_reducible rfl
                            try simp only [Act.put, List.setIfInBounds_toArray, List.set_cons_zero, List.set_cons_succ]
                            refine wpAnyH_take (i := 6) (oi := { dst := some 143, op := Go.Op.load 3 (Go.Operand.tmp 142), type := 3, pos := "law.go:50", after := #[{ on := 5, ground := Go.Ground.data }], guard := none }) (v := ?vv199) rfl (by kernel_rfl) (by kernel_rfl) (by kernel_rfl) (fun _ _ _ h => h) (Or.inl ⟨by rfl, ?hy199⟩) (by assumption) ?rr199
                            case hy199 => intro w hSw; (try dsimp only at hSw); go_simp; all_goals with_reducible rfl
                            try simp only [Act.put, List.setIfInBounds_toArray, List.set_cons_zero, List.set_cons_succ]
                            refine wpAnyH_take (i := 7) (oi := { dst := some 144, op := Go.Op.indexAddr 22 (Go.Operand.tmp 139) (Go.Operand.tmp 143), type := 0, pos := "law.go:50", after := #[{ on := 2, ground := Go.Ground.data }, { on := 6, ground := Go.Ground.data }], guard := none }) (v := ?vv200) rfl (by kernel_rfl) (by kernel_rfl) (by kernel_rfl) (fun _ _ _ h => h) (Or.inl ⟨by rfl, ?hy200⟩) (by assumption) ?rr200
                            case hy200 => intro w hSw; (try dsimp only at hSw); go_simp; all_goals with_reducible rfl
                            try simp only [Act.put, List.setIfInBounds_toArray, List.set_cons_zero, List.set_cons_succ]
                            refine wpAnyH_take (i := 8) (oi := { dst := some 145, op := Go.Op.fieldAddr 46 (Go.Operand.tmp 144) 2, type := 0, pos := "law.go:50", after := #[{ on := 7, ground := Go.Ground.data }], guard := none }) (v := ?vv201) rfl (by kernel_rfl) (by kernel_rfl) (by kernel_rfl) (fun _ _ _ h => h) (Or.inl ⟨by rfl, ?hy201⟩) (by assumption) ?rr201
                            case hy201 => intro w hSw; (try dsimp only at hSw); go_simp; all_goals with_reducible rfl
                            try simp only [Act.put, List.setIfInBounds_toArray, List.set_cons_zero, List.set_cons_succ]
                            refine wpAnyH_take (i := 9) (oi := { dst := some 146, op := Go.Op.load 44 (Go.Operand.tmp 145), type := 44, pos := "law.go:50", after := #[{ on := 8, ground := Go.Ground.data }], guard := none }) (v := ?vv202) rfl (by kernel_rfl) (by kernel_rfl) (by kernel_rfl) (fun _ _ _ h => h) (Or.inl ⟨by rfl, ?hy202⟩) (by assumption) ?rr202
                            case hy202 => intro w hSw; (try dsimp only at hSw); go_simp; all_goals with_reducible rfl
                            try simp only [Act.put, List.setIfInBounds_toArray, List.set_cons_zero, List.set_cons_succ]
                            refine wpAnyH_take (i := 10) (oi := { dst := some 147, op := Go.Op.move (Go.Operand.tmp 9), type := 3, pos := "law.go:50", after := #[], guard := none }) (v := ?vv203) rfl (by kernel_rfl) (by kernel_rfl) (by kernel_rfl) (fun _ _ _ h => h) (Or.inl ⟨by rfl, ?hy203⟩) (by assumption) ?rr203
                            case hy203 => intro w hSw; (try dsimp only at hSw); go_simp; all_goals with_reducible rfl
                            try simp only [Act.put, List.setIfInBounds_toArray, List.set_cons_zero, List.set_cons_succ]
                            refine wpAnyH_take (i := 11) (oi := { dst := some 148, op := Go.Op.indexAddr 44 (Go.Operand.tmp 146) (Go.Operand.tmp 147), type := 0, pos := "law.go:50", after := #[{ on := 9, ground := Go.Ground.data }, { on := 10, ground := Go.Ground.data }], guard := none }) (v := ?vv204) rfl (by kernel_rfl) (by kernel_rfl) (by kernel_rfl) (fun _ _ _ h => h) (Or.inl ⟨by rfl, ?hy204⟩) (by assumption) ?rr204
                            case hy204 => intro w hSw; (try dsimp only at hSw); go_simp; all_goals with_reducible rfl
                            try simp only [Act.put, List.setIfInBounds_toArray, List.set_cons_zero, List.set_cons_succ]
                            refine wpAnyH_take (i := 12) (oi := { dst := some 149, op := Go.Op.load 3 (Go.Operand.tmp 148), type := 3, pos := "law.go:50", after := #[{ on := 11, ground := Go.Ground.data }], guard := none }) (v := ?vv205) rfl (by kernel_rfl) (by kernel_rfl) (by kernel_rfl) (fun _ _ _ h => h) (Or.inl ⟨by rfl, ?hy205⟩) (by assumption) ?rr205
                            case hy205 => intro w hSw; (try dsimp only at hSw); go_simp; all_goals with_reducible rfl
                            try simp only [Act.put, List.setIfInBounds_toArray, List.set_cons_zero, List.set_cons_succ]
                            refine wpAnyH_ready (rs := [13]) (by kernel_rfl) (by simp) ?_
                            refine AllReadyH.cons (i := 13) (o := { dst := some 150, op := Go.Op.call { callee := Go.Callee.value (Go.Operand.func 33), args := #[Go.Operand.tmp 137, Go.Operand.tmp 149], argTypes := #[24, 3] }, type := 3, pos := "law.go:50", after := #[{ on := 0, ground := Go.Ground.data }, { on := 12, ground := Go.Ground.data }], guard := none }) rfl (fun K hK => ?_) AllReadyH.nil
                            go_simp
                            go_at_call 33
                            refine (rref_any h v (some ⟨b, off, none⟩) c _).mono ?_
                            rintro e w' ⟨rfl, hb⟩
                            rw [rv2]
                            refine hK.out _ _ ?_ (fun hHeld => ?_)
                            · exact ⟨cell_later hb x0', cell_later hb x1', cell_later hb x2', cell_later hb lc', cell_later hb e2', cell_later hb sc, draw_then (below_drewN _ _).drew hb⟩
                            clear hK K
                            try simp only [Act.put, List.setIfInBounds_toArray, List.set_cons_zero, List.set_cons_succ]
                            have hH1 := hHeld
                            clear hHeld hb
                            have hHeld := hH1
                            refine wpAnyH_take (i := 14) (oi := { dst := some 10, op := Go.Op.assign (Go.Operand.tmp 150), type := 3, pos := "law.go:50", after := #[{ on := 13, ground := Go.Ground.data }, { on := 13, ground := Go.Ground.chain }, { on := 0, ground := Go.Ground.phase }, { on := 1, ground := Go.Ground.phase }, { on := 2, ground := Go.Ground.phase }, { on := 3, ground := Go.Ground.phase }, { on := 4, ground := Go.Ground.phase }, { on := 5, ground := Go.Ground.phase }, { on := 6, ground := Go.Ground.phase }, { on := 7, ground := Go.Ground.phase }, { on := 8, ground := Go.Ground.phase }, { on := 9, ground := Go.Ground.phase }, { on := 10, ground := Go.Ground.phase }, { on := 11, ground := Go.Ground.phase }, { on := 12, ground := Go.Ground.phase }, { on := 13, ground := Go.Ground.phase }], guard := none }) (v := ?vv206) rfl (by kernel_rfl) (by kernel_rfl) (by kernel_rfl) (fun _ _ _ h => h) (Or.inl ⟨by rfl, ?hy206⟩) (by assumption) ?rr206
                            case hy206 => intro w hSw; (try dsimp only at hSw); go_simp; all_goals with_reducible rfl
                            try simp only [Act.put, List.setIfInBounds_toArray, List.set_cons_zero, List.set_cons_succ]
                            refine wpAnyH_done (by kernel_rfl) ?_ _
                            have hHeldC := hHeld.2.2.2.2.2.2
                            go_wp2_with fail
                            refine (in_any (liveL h rs) q (some ⟨bl, ol, none⟩) c4 _ ((HI.out.below HW2.out).below hHeldC) (by omega)).mono ?_
                            rintro e w6 ⟨rfl, hb6⟩
                            rw [hqm]
                            go_wp2_with fail
                            go_roundw
                            case rel => exact ⟨j + 1, by omega, by go_num, (HW2.out.trans (hHeldC.mono HW2.out.size)).trans (hb6.mono (Nat.le_trans HW2.out.size hHeldC.size))⟩
                            case measure => simp [intOf]; omega
                        · go_wp2_with fail
                          go_quiet (fail)
                          go_wp2_with fail
                          go_roundw
                          case rel => exact ⟨(m + 1) + 1, by omega, by go_num, HW.out.trans ((HW2.out.trans ((below_drewN _ _).mono HW2.out.size)).mono HW.out.size)⟩
                          case measure => simp [intOf]; omega
                  · have hkl : k = (liveL h rs).length := by omega
                    clear x0 x1 x2
                    go_wp2_with fail
                    go_ret
                    exact ⟨rfl, HB4.out.trans (HW.out.mono HB4.out.size)⟩
          · rw [liE_no he]
            have he' : (liE h rs != 0) = true := by simpa using he
            go_wp2_with fail
            go_ret
            exact ⟨rfl, HB4.out⟩
theorem closes_law (h : Hp) (rs : List Int) (A : Option Addr) (c : Nat) (R : Option Addr) (d : Nat) (w : World) (hs : ObsR w A h.objs) (fit : h.Fit) (hr : IntsR w R rs) (hl : rs.length ≤ 9223372036854775807) :
    Calls Try.prog 10 #[.agg #[.slice A h.objs.length c, .int .i64 h.cap, .int .i64 h.last], .slice R rs.length d] w fun e w' => e = .returned (.bool true) ∧ Below w.heap.size w w' := closes_any h rs A R c d w hs fit hr hl
end Go.Proofs.Ytpeojbkbeigahaa
