/- MarkTells walked: the program's and the document's answers are the same. -/
import Derived.Test.YtpeojbkbeigahaaNL
import Derived.Test.YtpeojbkbeigahaaMX
import Derived.Test.YtpeojbkbeigahaaMB
import Derived.Test.YtpeojbkbeigahaaN
namespace Go.Proofs.Ytpeojbkbeigahaa
open Go.RowKit
set_option maxRecDepth 100000
theorem mh_no {h : Hp} {rs : List Int} {v : Int} (e : liE h rs ≠ 0) : mhB h rs v = false := by
  unfold mhB liL
  rw [if_neg e]; simp
theorem mh_ref {h : Hp} {rs : List Int} {v : Int} (hr : refB h.objs.length v = false) : mhB h rs v = false := by
  unfold mhB
  cases ha : atB v
  · rfl
  · have : ¬ atV v ∈ liL h rs := fun hm => by
      unfold liL at hm
      split at hm
      · obtain ⟨i, hi, r⟩ := mem_liveL.1 hm
        have := r.lt
        unfold refB at hr
        rw [ha] at hr
        simp at hr
        omega
      · simp at hm
    simp [this]
theorem mh_in {h : Hp} {rs : List Int} {v : Int} (hr : refB h.objs.length v = true) : mhB h rs v = decide (atV v ∈ liL h rs) := by
  unfold mhB
  rw [(refB_no hr).1, Bool.true_and]
theorem rh_any (h : Hp) (rs : List Int) (v : Int) (A R : Option Addr) (c d : Nat) (w : World) (hs : ObsR w A h.objs) (fit : h.Fit) (hr : IntsR w R rs) (hl : rs.length ≤ 9223372036854775807) :
    Calls Try.prog 40 #[.agg #[.slice A h.objs.length c, .int .i64 h.cap, .int .i64 h.last], .slice R rs.length d, .int .i64 v] w fun e w' => e = .returned (.bool (mhB h rs v)) ∧ Below w.heap.size w w' := by
  have HB0 := hid (below_alloc w (.cells #[Value.slice A h.objs.length c, Value.int .i64 h.cap, Value.int .i64 h.last] 24))
  have X0 := hid (Lies.new w 24 #[Value.slice A h.objs.length c, Value.int .i64 h.cap, Value.int .i64 h.last])
  have hll := liL_len h rs
  have hf1 := fit.1
  have HS := hid hs
  have HF := hid fit
  have HR := hid hr
  clear hs fit hr
  by_cases he : liE h rs = 0
  · cases hrv : refB h.objs.length v
    · have e1 := mh_ref (rs := rs) hrv
      have rv : refI h.objs.length v = -1 := refI_neg hrv
      rw [e1]; clear e1
      go_enter Try.func40, Try.ntmps40
      go_wp2_with fail
      refine (rlive_any h rs A R c d _ (HS.out.below HB0.out) HF.out (HR.out.below HB0.out) hl).mono ?_
      rintro e w2 ⟨A2, c2, rfl, hi2, -, -, hb2⟩
      rw [he]
      have HB2 := hid (HB0.out.trans (hb2.mono (by simp)))
      have X2 := hid (X0.out.later hb2)
      clear hi2 hb2
      have x0 := X2.out.cell 0
      have x1 := X2.out.cell 1
      have x2 := X2.out.cell 2
      simp only [List.getElem?_toArray, List.getElem?_cons_zero, List.getElem?_cons_succ] at x0 x1 x2
      go_wp2_with fail
      refine (rref_any h v A c _).mono ?_
      rintro e w3 ⟨rfl, hb3⟩
      rw [rv]
      have HB3 := hid (HB2.out.trans (hb3.mono HB2.out.size))
      clear hb3
      go_wp2_with fail
      go_ret
      exact ⟨rfl, HB3.out⟩
    · have e1 := mh_in (rs := rs) hrv
      have rv : refI h.objs.length v = atV v := refI_nonneg hrv
      have hv0 := (refB_no hrv).2.1
      rw [e1]; clear e1
      go_enter Try.func40, Try.ntmps40
      go_wp2_with fail
      refine (rlive_any h rs A R c d _ (HS.out.below HB0.out) HF.out (HR.out.below HB0.out) hl).mono ?_
      rintro e w2 ⟨A2, c2, rfl, hi2, -, -, hb2⟩
      rw [he]
      have HB2 := hid (HB0.out.trans (hb2.mono (by simp)))
      have X2 := hid (X0.out.later hb2)
      have HI2 := hid hi2
      clear hi2 hb2
      have x0 := X2.out.cell 0
      have x1 := X2.out.cell 1
      have x2 := X2.out.cell 2
      simp only [List.getElem?_toArray, List.getElem?_cons_zero, List.getElem?_cons_succ] at x0 x1 x2
      go_wp2_with fail
      refine (rref_any h v A c _).mono ?_
      rintro e w3 ⟨rfl, hb3⟩
      rw [rv]
      have HB3 := hid (HB2.out.trans (hb3.mono HB2.out.size))
      have X3 := hid (X2.out.later hb3)
      have HI3 := hid (HI2.out.below hb3)
      clear hb3 x0 x1 x2
      have x0 := X3.out.cell 0
      have x1 := X3.out.cell 1
      have x2 := X3.out.cell 2
      simp only [List.getElem?_toArray, List.getElem?_cons_zero, List.getElem?_cons_succ] at x0 x1 x2
      go_wp2_with fail
      refine (rref_any h v A c _).mono ?_
      rintro e w4 ⟨rfl, hb4⟩
      rw [rv]
      have HB4 := hid (HB3.out.trans (hb4.mono HB3.out.size))
      have HI4 := hid (HI3.out.below hb4)
      clear hb4 x0 x1 x2
      go_wp2_with fail
      refine (in_any (liL h rs) (atV v) A2 c2 _ HI4.out (by omega)).mono ?_
      rintro e w5 ⟨rfl, hb5⟩
      have HB5 := hid (HB4.out.trans (hb5.mono HB4.out.size))
      clear hb5
      go_wp2_with fail
      go_ret
      exact ⟨rfl, HB5.out⟩
  · have e1 := mh_no (v := v) he
    have he' : (liE h rs == 0) = false := by simpa using he
    rw [e1]; clear e1
    go_enter Try.func40, Try.ntmps40
    go_wp2_with fail
    refine (rlive_any h rs A R c d _ (HS.out.below HB0.out) HF.out (HR.out.below HB0.out) hl).mono ?_
    rintro e w2 ⟨A2, c2, rfl, hi2, -, -, hb2⟩
    have HB2 := hid (HB0.out.trans (hb2.mono (by simp)))
    clear hi2 hb2
    go_wp2_with fail
    go_ret
    exact ⟨rfl, HB2.out⟩
set_option maxHeartbeats 2000000 in
theorem tells4_any (h : Hp) (rs : List Int) (v : Int) (A : Option Addr) (c : Nat) (R : Option Addr) (d : Nat) (w : World) (hs : ObsR w A h.objs) (fit : h.Fit) (hr : IntsR w R rs) (hl : rs.length ≤ 9223372036854775807) :
    Calls Try.prog 9 #[.agg #[.slice A h.objs.length c, .int .i64 h.cap, .int .i64 h.last], .slice R rs.length d, .int .i64 v] w fun e w' => e = .returned (.bool true) ∧ Below w.heap.size w w' := by
  have HB0 := hid (below_alloc w (.cells #[Value.slice A h.objs.length c, Value.int .i64 h.cap, Value.int .i64 h.last] 24))
  have X0 := hid (Lies.new w 24 #[Value.slice A h.objs.length c, Value.int .i64 h.cap, Value.int .i64 h.last])
  have O0 := hid (hs.below HB0.out)
  have R0 := hid (hr.below HB0.out)
  have HF := hid fit
  have hfl := fit.1
  have hll := liL_len h rs
  clear hs fit hr
  go_enter Try.func9, Try.ntmps9
  have x0 := X0.out.cell 0
  have x1 := X0.out.cell 1
  have x2 := X0.out.cell 2
  simp only [List.getElem?_toArray, List.getElem?_cons_zero, List.getElem?_cons_succ] at x0 x1 x2
  go_wp2_with fail
  refine (small_ok h A c _ O0.out HF.out).mono ?_
  rintro e w1 ⟨sm, rfl, hb⟩
  have HB1 := hid (HB0.out.trans (hb.mono HB0.out.size))
  have X1 := hid (X0.out.later hb)
  have O1 := hid (O0.out.below hb)
  have R1 := hid (R0.out.below hb)
  clear x0 x1 x2
  clear hb
  have x0 := X1.out.cell 0
  have x1 := X1.out.cell 1
  have x2 := X1.out.cell 2
  simp only [List.getElem?_toArray, List.getElem?_cons_zero, List.getElem?_cons_succ] at x0 x1 x2
  cases sm
  · go_wp2_with fail
    refine (fixed4_any _).mono ?_
    rintro e w2 ⟨rfl, hb⟩
    have HB2 := hid (HB1.out.trans (hb.mono HB1.out.size))
    have X2 := hid (X1.out.later hb)
    have O2 := hid (O1.out.below hb)
    have R2 := hid (R1.out.below hb)
    clear x0 x1 x2
    clear hb
    have x0 := X2.out.cell 0
    have x1 := X2.out.cell 1
    have x2 := X2.out.cell 2
    simp only [List.getElem?_toArray, List.getElem?_cons_zero, List.getElem?_cons_succ] at x0 x1 x2
    go_wp2_with fail
    go_ret
    exact ⟨rfl, HB2.out⟩
  · by_cases c1 : 40 < h.objs.length
    · go_wp2_with fail
      refine (fixed4_any _).mono ?_
      rintro e w2 ⟨rfl, hb⟩
      have HB2 := hid (HB1.out.trans (hb.mono HB1.out.size))
      have X2 := hid (X1.out.later hb)
      have O2 := hid (O1.out.below hb)
      have R2 := hid (R1.out.below hb)
      clear x0 x1 x2
      clear hb
      have x0 := X2.out.cell 0
      have x1 := X2.out.cell 1
      have x2 := X2.out.cell 2
      simp only [List.getElem?_toArray, List.getElem?_cons_zero, List.getElem?_cons_succ] at x0 x1 x2
      go_wp2_with fail
      go_ret
      exact ⟨rfl, HB2.out⟩
    · by_cases c2 : 100 < rs.length
      · go_wp2_with fail
        refine (fixed4_any _).mono ?_
        rintro e w2 ⟨rfl, hb⟩
        have HB2 := hid (HB1.out.trans (hb.mono HB1.out.size))
        have X2 := hid (X1.out.later hb)
        have O2 := hid (O1.out.below hb)
        have R2 := hid (R1.out.below hb)
        clear x0 x1 x2
        clear hb
        have x0 := X2.out.cell 0
        have x1 := X2.out.cell 1
        have x2 := X2.out.cell 2
        simp only [List.getElem?_toArray, List.getElem?_cons_zero, List.getElem?_cons_succ] at x0 x1 x2
        go_wp2_with fail
        go_ret
        exact ⟨rfl, HB2.out⟩
      · go_wp2_with fail
        refine (live_any h rs A R c d _ O1.out HF.out R1.out hl).mono ?_
        rintro e w2 ⟨A2, c2, rfl, hi2, -, -, hb⟩
        have HB2 := hid (HB1.out.trans (hb.mono HB1.out.size))
        have X2 := hid (X1.out.later hb)
        have O2 := hid (O1.out.below hb)
        have R2 := hid (R1.out.below hb)
        have LA2 := hid hi2
        clear x0 x1 x2 hi2 hb
        have x0 := X2.out.cell 0
        have x1 := X2.out.cell 1
        have x2 := X2.out.cell 2
        simp only [List.getElem?_toArray, List.getElem?_cons_zero, List.getElem?_cons_succ] at x0 x1 x2
        go_wp2_with fail
        refine (rlive_any h rs A R c d _ O2.out HF.out R2.out hl).mono ?_
        rintro e w3 ⟨A3, c3, rfl, hi3, -, -, hb⟩
        have HB3 := hid (HB2.out.trans (hb.mono HB2.out.size))
        have X3 := hid (X2.out.later hb)
        have O3 := hid (O2.out.below hb)
        have R3 := hid (R2.out.below hb)
        have LA3 := hid (LA2.out.below hb)
        have LB3 := hid hi3
        clear x0 x1 x2 hi3 hb
        have x0 := X3.out.cell 0
        have x1 := X3.out.cell 1
        have x2 := X3.out.cell 2
        simp only [List.getElem?_toArray, List.getElem?_cons_zero, List.getElem?_cons_succ] at x0 x1 x2
        obtain ⟨en, hen⟩ : ∃ en, en = liE h rs := ⟨_, rfl⟩
        obtain ⟨bb, hbb⟩ : ∃ bb, bb = mhB h rs v := ⟨_, rfl⟩
        obtain ⟨L, hL⟩ : ∃ L, L = liL h rs := ⟨_, rfl⟩
        rw [← hen, ← hL]
        rw [← hL] at LA3 LB3 hll
        have HBB := hid hbb
        clear hen hbb hL
        go_wp2_with fail
        refine wp_region_held_drew (S := (fun w' => w'.cell? ⟨w.heap.size, 0, none⟩ = some (.slice A h.objs.length c) ∧ w'.cell? ⟨w.heap.size, 1, none⟩ = some (.int .i64 h.cap) ∧ w'.cell? ⟨w.heap.size, 2, none⟩ = some (.int .i64 h.last) ∧ Below w3.heap.size w3 w')) (by kernel_rfl) ?_ (fun hHeld => ?_)
        · exact ⟨x0, x1, x2, (Below.refl _ _).drew⟩
        refine wpAnyH_ready (rs := [0]) (by kernel_rfl) (by simp) ?_
        refine AllReadyH.cons (i := 0) (o := { dst := some 38, op := Go.Op.call { callee := Go.Callee.value (Go.Operand.func 35), args := #[], argTypes := #[] }, type := 4, pos := "law.go:28", after := #[], guard := none }) rfl (fun K hK => ?_) AllReadyH.nil
        go_simp
        go_at_call 35
        refine (fixed4_any _).mono ?_
        rintro e w' ⟨rfl, hb⟩
        refine hK.out _ _ ?_ (fun hHeld => ?_)
        · exact ⟨cell_later hb x0, cell_later hb x1, cell_later hb x2, below_up (Below.refl _ _).drew hb⟩
        clear hK K
        try simp only [Act.put, List.setIfInBounds_toArray, List.set_cons_zero, List.set_cons_succ]
        have hH1 := hHeld
        clear hHeld hb
        have hHeld := hH1
        refine wpAnyH_take (i := 1) (oi := { dst := some 39, op := Go.Op.move (Go.Operand.tmp 38), type := 4, pos := "law.go:28", after := #[{ on := 0, ground := Go.Ground.data }, { on := 0, ground := Go.Ground.chain }], guard := none }) (v := ?vv1) rfl (by kernel_rfl) (by kernel_rfl) (by kernel_rfl) (fun _ _ _ h => h) (Or.inl ⟨by rfl, ?hy1⟩) (by assumption) ?rr1
        case hy1 => intro w hSw; (try dsimp only at hSw); go_simp; all_goals with_reducible rfl
        try simp only [Act.put, List.setIfInBounds_toArray, List.set_cons_zero, List.set_cons_succ]
        refine wpAnyH_take (i := 2) (oi := { dst := some 40, op := Go.Op.move (Go.Operand.tmp 7), type := 44, pos := "law.go:28", after := #[{ on := 1, ground := Go.Ground.guard }], guard := some (1, true) }) (v := ?vv2) rfl (by kernel_rfl) (by kernel_rfl) (by kernel_rfl) (fun _ _ _ h => h) (Or.inl ⟨by rfl, ?hy2⟩) (by assumption) ?rr2
        case hy2 => intro w hSw; (try dsimp only at hSw); go_simp; all_goals with_reducible rfl
        try simp only [Act.put, List.setIfInBounds_toArray, List.set_cons_zero, List.set_cons_succ]
        refine wpAnyH_take (i := 3) (oi := { dst := some 41, op := Go.Op.move (Go.Operand.tmp 9), type := 44, pos := "law.go:28", after := #[{ on := 1, ground := Go.Ground.guard }], guard := some (1, true) }) (v := ?vv3) rfl (by kernel_rfl) (by kernel_rfl) (by kernel_rfl) (fun _ _ _ h => h) (Or.inl ⟨by rfl, ?hy3⟩) (by assumption) ?rr3
        case hy3 => intro w hSw; (try dsimp only at hSw); go_simp; all_goals with_reducible rfl
        try simp only [Act.put, List.setIfInBounds_toArray, List.set_cons_zero, List.set_cons_succ]
        refine wpAnyH_ready (rs := [4]) (by kernel_rfl) (by simp) ?_
        refine AllReadyH.cons (i := 4) (o := { dst := some 42, op := Go.Op.call { callee := Go.Callee.value (Go.Operand.func 38), args := #[Go.Operand.tmp 40, Go.Operand.tmp 41], argTypes := #[44, 44] }, type := 4, pos := "law.go:28", after := #[{ on := 2, ground := Go.Ground.data }, { on := 3, ground := Go.Ground.data }, { on := 1, ground := Go.Ground.chain }, { on := 1, ground := Go.Ground.guard }], guard := some (1, true) }) rfl (fun K hK => ?_) AllReadyH.nil
        go_simp
        go_at_call 38
        refine (rints_any L L A2 A3 c2 c3 _ (LA3.out.below ((hH1.2.2.2))) (LB3.out.below ((hH1.2.2.2))) (by omega)).mono ?_
        rintro e w' ⟨rfl, hb⟩
        rw [decide_eq_true (rfl : L = L)]
        refine hK.out _ _ ?_ (fun hHeld => ?_)
        · exact ⟨cell_later hb hH1.1, cell_later hb hH1.2.1, cell_later hb hH1.2.2.1, hH1.2.2.2.trans (hb.mono hH1.2.2.2.size)⟩
        clear hK K
        try simp only [Act.put, List.setIfInBounds_toArray, List.set_cons_zero, List.set_cons_succ]
        have hH2 := hHeld
        clear hHeld hb
        have hHeld := hH2
        refine wpAnyH_take (i := 5) (oi := { dst := some 43, op := Go.Op.pick (Go.Operand.tmp 39) (Go.Operand.tmp 42) (Go.Operand.const (Go.Value.bool false)), type := 4, pos := "law.go:28", after := #[{ on := 1, ground := Go.Ground.data }, { on := 4, ground := Go.Ground.data }], guard := none }) (v := ?vv4) rfl (by kernel_rfl) (by kernel_rfl) (by kernel_rfl) (fun _ _ _ h => h) (Or.inl ⟨by rfl, ?hy4⟩) (by assumption) ?rr4
        case hy4 => intro w hSw; (try dsimp only at hSw); go_simp; all_goals with_reducible rfl
        try simp only [Act.put, List.setIfInBounds_toArray, List.set_cons_zero, List.set_cons_succ]
        refine wpAnyH_take (i := 6) (oi := { dst := some 44, op := Go.Op.move (Go.Operand.tmp 43), type := 4, pos := "law.go:28", after := #[{ on := 5, ground := Go.Ground.data }, { on := 4, ground := Go.Ground.chain }], guard := none }) (v := ?vv5) rfl (by kernel_rfl) (by kernel_rfl) (by kernel_rfl) (fun _ _ _ h => h) (Or.inl ⟨by rfl, ?hy5⟩) (by assumption) ?rr5
        case hy5 => intro w hSw; (try dsimp only at hSw); go_simp; all_goals with_reducible rfl
        try simp only [Act.put, List.setIfInBounds_toArray, List.set_cons_zero, List.set_cons_succ]
        refine wpAnyH_take (i := 7) (oi := { dst := some 45, op := Go.Op.move (Go.Operand.tmp 8), type := 29, pos := "law.go:28", after := #[{ on := 6, ground := Go.Ground.guard }], guard := some (6, true) }) (v := ?vv6) rfl (by kernel_rfl) (by kernel_rfl) (by kernel_rfl) (fun _ _ _ h => h) (Or.inl ⟨by rfl, ?hy6⟩) (by assumption) ?rr6
        case hy6 => intro w hSw; (try dsimp only at hSw); go_simp; all_goals with_reducible rfl
        try simp only [Act.put, List.setIfInBounds_toArray, List.set_cons_zero, List.set_cons_succ]
        refine wpAnyH_take (i := 8) (oi := { dst := some 46, op := Go.Op.move (Go.Operand.tmp 10), type := 29, pos := "law.go:28", after := #[{ on := 6, ground := Go.Ground.guard }], guard := some (6, true) }) (v := ?vv7) rfl (by kernel_rfl) (by kernel_rfl) (by kernel_rfl) (fun _ _ _ h => h) (Or.inl ⟨by rfl, ?hy7⟩) (by assumption) ?rr7
        case hy7 => intro w hSw; (try dsimp only at hSw); go_simp; all_goals with_reducible rfl
        try simp only [Act.put, List.setIfInBounds_toArray, List.set_cons_zero, List.set_cons_succ]
        refine wpAnyH_take (i := 9) (oi := { dst := some 47, op := Go.Op.binOp Go.BinOp.eql 29 (Go.Operand.tmp 45) (Go.Operand.tmp 46) 29, type := 4, pos := "law.go:28", after := #[{ on := 7, ground := Go.Ground.data }, { on := 8, ground := Go.Ground.data }, { on := 6, ground := Go.Ground.guard }], guard := some (6, true) }) (v := ?vv8) rfl (by kernel_rfl) (by kernel_rfl) (by kernel_rfl) (fun _ _ _ h => h) (Or.inl ⟨by rfl, ?hy8⟩) (by assumption) ?rr8
        case hy8 => intro w hSw; (try dsimp only at hSw); go_simp; all_goals with_reducible rfl
        try simp only [Act.put, List.setIfInBounds_toArray, List.set_cons_zero, List.set_cons_succ]
        refine wpAnyH_take (i := 10) (oi := { dst := some 48, op := Go.Op.pick (Go.Operand.tmp 44) (Go.Operand.tmp 47) (Go.Operand.const (Go.Value.bool false)), type := 4, pos := "law.go:28", after := #[{ on := 6, ground := Go.Ground.data }, { on := 9, ground := Go.Ground.data }], guard := none }) (v := ?vv9) rfl (by kernel_rfl) (by kernel_rfl) (by kernel_rfl) (fun _ _ _ h => h) (Or.inl ⟨by rfl, ?hy9⟩) (by assumption) ?rr9
        case hy9 => intro w hSw; (try dsimp only at hSw); go_simp; all_goals with_reducible rfl
        try simp only [Act.put, List.setIfInBounds_toArray, List.set_cons_zero, List.set_cons_succ]
        refine wpAnyH_take (i := 11) (oi := { dst := some 49, op := Go.Op.move (Go.Operand.tmp 48), type := 4, pos := "law.go:28", after := #[{ on := 10, ground := Go.Ground.data }, { on := 6, ground := Go.Ground.chain }], guard := none }) (v := ?vv10) rfl (by kernel_rfl) (by kernel_rfl) (by kernel_rfl) (fun _ _ _ h => h) (Or.inl ⟨by rfl, ?hy10⟩) (by assumption) ?rr10
        case hy10 => intro w hSw; (try dsimp only at hSw); go_simp; all_goals with_reducible rfl
        try simp only [Act.put, List.setIfInBounds_toArray, List.set_cons_zero, List.set_cons_succ]
        refine wpAnyH_take (i := 12) (oi := { dst := some 50, op := Go.Op.load 24 (Go.Operand.tmp 3), type := 24, pos := "law.go:28", after := #[{ on := 11, ground := Go.Ground.guard }], guard := some (11, true) }) (v := ?vv11) rfl (by kernel_rfl) (by kernel_rfl) (by kernel_rfl) (fun _ _ _ h => h) (Or.inl ⟨by rfl, ?hy11⟩) (by assumption) ?rr11
        case hy11 => intro w hSw; (try dsimp only at hSw); go_simp; all_goals with_reducible rfl
        try simp only [Act.put, List.setIfInBounds_toArray, List.set_cons_zero, List.set_cons_succ]
        refine wpAnyH_take (i := 13) (oi := { dst := some 51, op := Go.Op.move (Go.Operand.tmp 1), type := 44, pos := "law.go:28", after := #[{ on := 11, ground := Go.Ground.guard }], guard := some (11, true) }) (v := ?vv12) rfl (by kernel_rfl) (by kernel_rfl) (by kernel_rfl) (fun _ _ _ h => h) (Or.inl ⟨by rfl, ?hy12⟩) (by assumption) ?rr12
        case hy12 => intro w hSw; (try dsimp only at hSw); go_simp; all_goals with_reducible rfl
        try simp only [Act.put, List.setIfInBounds_toArray, List.set_cons_zero, List.set_cons_succ]
        refine wpAnyH_take (i := 14) (oi := { dst := some 52, op := Go.Op.move (Go.Operand.tmp 2), type := 3, pos := "law.go:28", after := #[{ on := 11, ground := Go.Ground.guard }], guard := some (11, true) }) (v := ?vv13) rfl (by kernel_rfl) (by kernel_rfl) (by kernel_rfl) (fun _ _ _ h => h) (Or.inl ⟨by rfl, ?hy13⟩) (by assumption) ?rr13
        case hy13 => intro w hSw; (try dsimp only at hSw); go_simp; all_goals with_reducible rfl
        try simp only [Act.put, List.setIfInBounds_toArray, List.set_cons_zero, List.set_cons_succ]
        refine wpAnyH_take (i := 16) (oi := { dst := some 54, op := Go.Op.load 24 (Go.Operand.tmp 3), type := 24, pos := "law.go:28", after := #[{ on := 11, ground := Go.Ground.guard }], guard := some (11, true) }) (v := ?vv14) rfl (by kernel_rfl) (by kernel_rfl) (by kernel_rfl) (fun _ _ _ h => h) (Or.inl ⟨by rfl, ?hy14⟩) (by assumption) ?rr14
        case hy14 => intro w hSw; (try dsimp only at hSw); go_simp; all_goals with_reducible rfl
        try simp only [Act.put, List.setIfInBounds_toArray, List.set_cons_zero, List.set_cons_succ]
        refine wpAnyH_take (i := 17) (oi := { dst := some 55, op := Go.Op.move (Go.Operand.tmp 1), type := 44, pos := "law.go:28", after := #[{ on := 11, ground := Go.Ground.guard }], guard := some (11, true) }) (v := ?vv15) rfl (by kernel_rfl) (by kernel_rfl) (by kernel_rfl) (fun _ _ _ h => h) (Or.inl ⟨by rfl, ?hy15⟩) (by assumption) ?rr15
        case hy15 => intro w hSw; (try dsimp only at hSw); go_simp; all_goals with_reducible rfl
        try simp only [Act.put, List.setIfInBounds_toArray, List.set_cons_zero, List.set_cons_succ]
        refine wpAnyH_take (i := 18) (oi := { dst := some 56, op := Go.Op.move (Go.Operand.tmp 2), type := 3, pos := "law.go:28", after := #[{ on := 11, ground := Go.Ground.guard }], guard := some (11, true) }) (v := ?vv16) rfl (by kernel_rfl) (by kernel_rfl) (by kernel_rfl) (fun _ _ _ h => h) (Or.inl ⟨by rfl, ?hy16⟩) (by assumption) ?rr16
        case hy16 => intro w hSw; (try dsimp only at hSw); go_simp; all_goals with_reducible rfl
        try simp only [Act.put, List.setIfInBounds_toArray, List.set_cons_zero, List.set_cons_succ]
        refine wpAnyH_ready (rs := [15]) (by kernel_rfl) (by simp) ?_
        refine AllReadyH.cons (i := 15) (o := { dst := some 53, op := Go.Op.call { callee := Go.Callee.value (Go.Operand.func 39), args := #[Go.Operand.tmp 50, Go.Operand.tmp 51, Go.Operand.tmp 52], argTypes := #[24, 44, 3] }, type := 4, pos := "law.go:28", after := #[{ on := 12, ground := Go.Ground.data }, { on := 13, ground := Go.Ground.data }, { on := 14, ground := Go.Ground.data }, { on := 11, ground := Go.Ground.chain }, { on := 11, ground := Go.Ground.guard }], guard := some (11, true) }) rfl (fun K hK => ?_) AllReadyH.nil
        go_simp
        go_at_call 39
        refine (mhas_any h rs v A R c d _ (O3.out.below ((hH2.2.2.2))) HF.out (R3.out.below ((hH2.2.2.2))) hl).mono ?_
        rintro e w' ⟨rfl, hb⟩
        rw [← HBB.out]
        refine hK.out _ _ ?_ (fun hHeld => ?_)
        · exact ⟨cell_later hb hH2.1, cell_later hb hH2.2.1, cell_later hb hH2.2.2.1, hH2.2.2.2.trans (hb.mono hH2.2.2.2.size)⟩
        clear hK K
        try simp only [Act.put, List.setIfInBounds_toArray, List.set_cons_zero, List.set_cons_succ]
        have hH3 := hHeld
        clear hHeld hb
        have hHeld := hH3
        refine wpAnyH_ready (rs := [19]) (by kernel_rfl) (by simp) ?_
        refine AllReadyH.cons (i := 19) (o := { dst := some 57, op := Go.Op.call { callee := Go.Callee.value (Go.Operand.func 40), args := #[Go.Operand.tmp 54, Go.Operand.tmp 55, Go.Operand.tmp 56], argTypes := #[24, 44, 3] }, type := 4, pos := "law.go:28", after := #[{ on := 16, ground := Go.Ground.data }, { on := 17, ground := Go.Ground.data }, { on := 18, ground := Go.Ground.data }, { on := 15, ground := Go.Ground.chain }, { on := 11, ground := Go.Ground.guard }], guard := some (11, true) }) rfl (fun K hK => ?_) AllReadyH.nil
        go_simp
        go_at_call 40
        refine (rh_any h rs v A R c d _ (O3.out.below ((hH3.2.2.2))) HF.out (R3.out.below ((hH3.2.2.2))) hl).mono ?_
        rintro e w' ⟨rfl, hb⟩
        rw [← HBB.out]
        refine hK.out _ _ ?_ (fun hHeld => ?_)
        · exact ⟨cell_later hb hH3.1, cell_later hb hH3.2.1, cell_later hb hH3.2.2.1, hH3.2.2.2.trans (hb.mono hH3.2.2.2.size)⟩
        clear hK K
        try simp only [Act.put, List.setIfInBounds_toArray, List.set_cons_zero, List.set_cons_succ]
        have hH4 := hHeld
        clear hHeld hb
        have hHeld := hH4
        refine wpAnyH_take (i := 20) (oi := { dst := some 58, op := Go.Op.binOp Go.BinOp.eql 4 (Go.Operand.tmp 53) (Go.Operand.tmp 57) 4, type := 4, pos := "law.go:28", after := #[{ on := 15, ground := Go.Ground.data }, { on := 19, ground := Go.Ground.data }, { on := 11, ground := Go.Ground.guard }], guard := some (11, true) }) (v := ?vv17) rfl (by kernel_rfl) (by kernel_rfl) (by kernel_rfl) (fun _ _ _ h => h) (Or.inl ⟨by rfl, ?hy17⟩) (by assumption) ?rr17
        case hy17 => intro w hSw; (try dsimp only at hSw); go_simp; all_goals with_reducible rfl
        try simp only [Act.put, List.setIfInBounds_toArray, List.set_cons_zero, List.set_cons_succ]
        refine wpAnyH_take (i := 21) (oi := { dst := some 59, op := Go.Op.pick (Go.Operand.tmp 49) (Go.Operand.tmp 58) (Go.Operand.const (Go.Value.bool false)), type := 4, pos := "law.go:28", after := #[{ on := 11, ground := Go.Ground.data }, { on := 20, ground := Go.Ground.data }], guard := none }) (v := ?vv18) rfl (by kernel_rfl) (by kernel_rfl) (by kernel_rfl) (fun _ _ _ h => h) (Or.inl ⟨by rfl, ?hy18⟩) (by assumption) ?rr18
        case hy18 => intro w hSw; (try dsimp only at hSw); go_simp; all_goals with_reducible rfl
        try simp only [Act.put, List.setIfInBounds_toArray, List.set_cons_zero, List.set_cons_succ]
        refine wpAnyH_take (i := 22) (oi := { dst := some 6, op := Go.Op.assign (Go.Operand.tmp 59), type := 4, pos := "law.go:28", after := #[{ on := 21, ground := Go.Ground.data }, { on := 19, ground := Go.Ground.chain }, { on := 0, ground := Go.Ground.phase }, { on := 1, ground := Go.Ground.phase }, { on := 2, ground := Go.Ground.phase }, { on := 3, ground := Go.Ground.phase }, { on := 4, ground := Go.Ground.phase }, { on := 5, ground := Go.Ground.phase }, { on := 6, ground := Go.Ground.phase }, { on := 7, ground := Go.Ground.phase }, { on := 8, ground := Go.Ground.phase }, { on := 9, ground := Go.Ground.phase }, { on := 10, ground := Go.Ground.phase }, { on := 11, ground := Go.Ground.phase }, { on := 12, ground := Go.Ground.phase }, { on := 13, ground := Go.Ground.phase }, { on := 14, ground := Go.Ground.phase }, { on := 15, ground := Go.Ground.phase }, { on := 16, ground := Go.Ground.phase }, { on := 17, ground := Go.Ground.phase }, { on := 18, ground := Go.Ground.phase }, { on := 19, ground := Go.Ground.phase }, { on := 20, ground := Go.Ground.phase }, { on := 21, ground := Go.Ground.phase }], guard := none }) (v := ?vv19) rfl (by kernel_rfl) (by kernel_rfl) (by kernel_rfl) (fun _ _ _ h => h) (Or.inl ⟨by rfl, ?hy19⟩) (by assumption) ?rr19
        case hy19 => intro w hSw; (try dsimp only at hSw); go_simp; all_goals with_reducible rfl
        try simp only [Act.put, List.setIfInBounds_toArray, List.set_cons_zero, List.set_cons_succ]
        refine wpAnyH_done (by kernel_rfl) ?_ _
        have hHeldB := hHeld.2.2.2
        have HB4 := hid (HB3.out.trans (hHeldB.mono HB3.out.size))
        go_wp2_with fail
        go_ret
        exact ⟨rfl, HB4.out⟩
end Go.Proofs.Ytpeojbkbeigahaa
