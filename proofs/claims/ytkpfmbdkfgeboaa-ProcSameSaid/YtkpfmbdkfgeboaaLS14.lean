/- ProcSame: the law. -/
import Derived.Test.YtkpfmbdkfgeboaaSP14
import Derived.Test.YtkpfmbdkfgeboaaSR14
import Derived.Test.YtkpfmbdkfgeboaaS
import Derived.Test.YtkpfmbdkfgeboaaN
namespace Go.Proofs.Ytkpfmbdkfgeboaa
open Go.RowKit
set_option maxRecDepth 100000
set_option maxHeartbeats 4000000 in
theorem procsame_any14 (h : Hp) (f p : Int) (A : Option Addr) (c : Nat) (w : World) (hs : ObsR w A h.objs) (fit : h.Fit) :
    Calls Try.prog 3 #[.agg #[.slice A h.objs.length c, .int .i64 h.cap, .int .i64 h.last], .int .i64 f, .int .i64 p] w fun e w' => e = .returned (.bool true) ∧ Below w.heap.size w w' := by
  obtain ⟨w0, hw0⟩ : ∃ w0, w0 = w.alloc (.cells #[Value.slice A h.objs.length c, Value.int .i64 h.cap, Value.int .i64 h.last] 24) := ⟨_, rfl⟩
  have HB0 : Hid (Below w.heap.size w w0) := by show Below _ _ _; rw [hw0]; exact below_alloc _ _
  have HX0 : Hid (Lies w0 w.heap.size 24 #[Value.slice A h.objs.length c, Value.int .i64 h.cap, Value.int .i64 h.last]) := by show Lies _ _ _ _; rw [hw0]; exact (Lies.new w _ _)
  have HS := hid hs
  have HF := hid fit
  clear hs fit
  go_enter Try.func3, Try.ntmps3
  go_upto_region 1 with fail
  rw [← hw0]
  clear hw0
  obtain ⟨x0, x1, x2⟩ := HX0.out.c3
  go_wp2_with fail
  refine (fixed14_any w0).mono ?_
  rintro e w1 ⟨rfl, hb⟩
  have HB1 := hid (then_w HB0.out hb)
  have HX1 := hid (HX0.out.later hb)
  clear hb x0 x1 x2 HB0 HX0
  obtain ⟨x0, x1, x2⟩ := HX1.out.c3
  go_wp2_with fail
  refine (small_ok h A c _ (HS.out.below HB1.out) HF.out).mono ?_
  rintro e w2 ⟨sb, rfl, hb⟩
  have HB2 := hid (then_w HB1.out hb)
  have HX2 := hid (HX1.out.later hb)
  clear hb x0 x1 x2 HB1 HX1
  cases sb
  · obtain ⟨x0, x1, x2⟩ := HX2.out.c3
    go_wp2_with fail
    refine (fixed14_any _).mono ?_
    rintro e w3 ⟨rfl, hb⟩
    have HB3 := hid (then_w HB2.out hb)
    clear hb x0 x1 x2 HB2 HX2
    go_wp2_with fail
    go_ret
    exact ⟨rfl, HB3.out⟩
  by_cases h60 : h.objs.length ≤ 60
  case neg =>
    have hI60 : (60 : Int) < (h.objs.length : Int) := by omega
    obtain ⟨x0, x1, x2⟩ := HX2.out.c3
    go_wp2_with fail
    refine (fixed14_any _).mono ?_
    rintro e w3 ⟨rfl, hb⟩
    have HB3 := hid (then_w HB2.out hb)
    clear hb x0 x1 x2 HB2 HX2
    go_wp2_with fail
    go_ret
    exact ⟨rfl, HB3.out⟩
  have hI60 : ¬ (60 : Int) < (h.objs.length : Int) := by omega
  obtain ⟨x0, x1, x2⟩ := HX2.out.c3
  go_wp2_with fail
  refine (rmay_any h A c _ (HS.out.below HB2.out) HF.out).mono ?_
  rintro e w3 ⟨rfl, hb⟩
  have HB3 := hid (then_w HB2.out hb)
  have HX3 := hid (HX2.out.later hb)
  clear hb x0 x1 x2 HB2 HX2
  cases hm : mayB h
  · clear hm
    obtain ⟨x0, x1, x2⟩ := HX3.out.c3
    go_wp2_with fail
    refine (fixed14_any _).mono ?_
    rintro e w4 ⟨rfl, hb⟩
    have HB4 := hid (then_w HB3.out hb)
    clear hb x0 x1 x2 HB3 HX3
    go_wp2_with fail
    go_ret
    exact ⟨rfl, HB4.out⟩
  have HM := hid hm
  clear hm
  obtain ⟨x0, x1, x2⟩ := HX3.out.c3
  go_wp2_with fail
  refine (rlist_any14 h f A c w3 (HS.out.below HB3.out) HF.out HM.out).mono ?_
  rintro e w4 ⟨S, cl, rfl, hol, hb⟩
  have HB4 := hid (then_w HB3.out hb)
  have HX4 := hid (HX3.out.later hb)
  clear hb x0 x1 x2 HB3 HX3
  cases hl : ls14 h f with
  | none =>
    rw [lr_none14 HM.out hl]
    clear hol
    go_wp2_with fail
    go_ret
    exact ⟨rfl, HB4.out⟩
  | some l =>
    rw [lr_some14 HM.out hl] at hol ⊢
    have HLS := hid hl
    have HIN4 := hid (own_ints hol)
    obtain ⟨-, hpc, -, hlen⟩ := ls_some14 hl
    have HPC := hid hpc
    have HLL : Hid (l.length ≤ 256) := by show _ ≤ _; have := may_len HM.out; omega
    clear hl hol hpc hlen
    obtain ⟨x0, x1, x2⟩ := HX4.out.c3
    go_wp2_with fail
    refine (rpc_any14 h p A c w w4 HS.out HB4.out HF.out HM.out).mono ?_
    rintro e w5 ⟨rfl, hb⟩
    have HB5 := hid (then_w HB4.out hb)
    have HX5 := hid (HX4.out.later hb)
    have HIN5 := hid (HIN4.out.below hb)
    clear hb x0 x1 x2 HB4 HX4
    cases hp : pc14 h p
    · clear hp
      go_wp2_with fail
      go_ret
      exact ⟨rfl, HB5.out⟩
    have HPP := hid hp
    have h300 : l.length ≤ 300 := by have := HLL.out; omega
    obtain ⟨p2, hp2⟩ : ∃ x, x = sl14 h p 2 := ⟨_, rfl⟩
    have HP2 := hid hp2
    have HPS : Hid (∃ a0 a1 a3, sls12 h p = [a0, a1, p2, a3]) := by
      obtain ⟨a0, a1, a2, a3, h4⟩ := list4_14 (pc_ref14 hp).2
      refine ⟨a0, a1, a3, ?_⟩
      rw [slot_kind14 HM.out (pc_ref14 hp).1 (fun e => by rw [e] at h4; cases h4), hp2]
      unfold sl14
      rw [h4]; rfl
    clear hp hp2 HIN4
    go_wp2_with fail
    go_loopw [9, 10] (fun b i wr => ∃ k : Nat, k ≤ l.length ∧ b = .bool (le14 h p (l.take k)) ∧ i = .int .i64 k ∧ Hid (Below w5.heap.size w5 wr) ∧ Hid (Below w.heap.size w wr) ∧ Hid (Lies wr w.heap.size 24 #[Value.slice A h.objs.length c, Value.int .i64 h.cap, Value.int .i64 h.last])) (fun _ i _ => l.length - (intOf i).toNat)
    case atStart => exact ⟨0, Nat.zero_le _, by rw [List.take_zero]; rfl, rfl, Below.refl _ _, HB5, HX5⟩
    case round =>
      rename World => w6
      obtain ⟨k, hk, rfl, rfl, HJ6, HB6, HX6⟩ := hrel
      clear HB5 HX5
      by_cases hlt : k < l.length
      · obtain ⟨bs, os, rfl, hbs, hcs⟩ := HIN5.out (by omega)
        have y0 := (HJ6.out.cell (p := ⟨bs, os + k, none⟩) hbs).trans (hcs k _ (List.getElem?_eq_getElem hlt))
        clear hbs hcs
        have hkI : (k : Int) < (l.length : Int) := by omega
        have hk0 : (0 : Int) ≤ (k : Int) := by omega
        have HST := hid (le_step14 (h := h) (p := p) hlt)
        have HQP := hid (HPC.out _ (List.getElem_mem hlt))
        obtain ⟨q, hq⟩ : ∃ q, q = l[k] := ⟨_, rfl⟩
        rw [← hq] at y0 HST HQP
        obtain ⟨b, hb⟩ : ∃ b, b = le14 h p (l.take k) := ⟨_, rfl⟩
        rw [← hb] at HST ⊢
        clear hq hb
        go_upto_region 10 with fail
        obtain ⟨x0, x1, x2⟩ := HX6.out.c3
        obtain ⟨a0, a1, q2, a3, h4⟩ := list4_14 (pc_ref14 HQP.out).2
        have HQ2 : Hid (sl14 h q 2 = q2) := by show _ = _; unfold sl14; rw [h4]; rfl
        have HQS : Hid (sls12 h q = [a0, a1, q2, a3]) := by
          show _ = _
          rw [slot_kind14 HM.out (pc_ref14 HQP.out).1 (fun e => by rw [e] at h4; cases h4), h4]
        clear h4
        obtain ⟨e0, e1, e3, HPS2⟩ := HPS.out
        have HPS3 := hid HPS2
        clear HPS2
        cases b
        · refine wp_region_held_drew (S := (fun w' => w'.cell? ⟨w.heap.size, 0, none⟩ = some (.slice A h.objs.length c) ∧ w'.cell? ⟨w.heap.size, 1, none⟩ = some (.int .i64 h.cap) ∧ w'.cell? ⟨w.heap.size, 2, none⟩ = some (.int .i64 h.last) ∧ w'.cell? ⟨bs, os + k, none⟩ = some (.int .i64 q) ∧ Below w6.heap.size w6 w')) (by kernel_rfl) ?_ (fun hH0 => ?_)
          · exact ⟨cell_later (Below.refl w6.heap.size w6).drew x0, cell_later (Below.refl w6.heap.size w6).drew x1, cell_later (Below.refl w6.heap.size w6).drew x2, cell_later (Below.refl w6.heap.size w6).drew y0, (Below.refl _ _).drew⟩
          refine wpAnyH_take (i := 0) (oi := { dst := some 63, op := Go.Op.move (Go.Operand.tmp 9), type := 4, pos := "law.go:140", after := #[], guard := none }) (v := ?vv1) rfl (by kernel_rfl) (by kernel_rfl) (by kernel_rfl) (fun _ _ _ h => h) (Or.inl ⟨by rfl, ?hy1⟩) (by assumption) ?rr1
          case hy1 => intro w hSw; (try dsimp only at hSw); go_simp; all_goals with_reducible rfl
          try simp only [Act.put, List.setIfInBounds_toArray, List.set_cons_zero, List.set_cons_succ]
          refine wpAnyH_take (i := 1) (oi := { dst := some 64, op := Go.Op.move (Go.Operand.tmp 63), type := 4, pos := "law.go:140", after := #[{ on := 0, ground := Go.Ground.data }], guard := none }) (v := ?vv2) rfl (by kernel_rfl) (by kernel_rfl) (by kernel_rfl) (fun _ _ _ h => h) (Or.inl ⟨by rfl, ?hy2⟩) (by assumption) ?rr2
          case hy2 => intro w hSw; (try dsimp only at hSw); go_simp; all_goals with_reducible rfl
          try simp only [Act.put, List.setIfInBounds_toArray, List.set_cons_zero, List.set_cons_succ]
          refine wpAnyH_take (i := 2) (oi := { dst := some 65, op := Go.Op.load 24 (Go.Operand.tmp 3), type := 24, pos := "law.go:140", after := #[{ on := 1, ground := Go.Ground.guard }], guard := some (1, true) }) (v := undef) rfl (by kernel_rfl) (by kernel_rfl) (by kernel_rfl) (fun _ _ _ h => h) (Or.inr ⟨by rfl, rfl⟩) (by assumption) ?_
          try simp only [Act.put, List.setIfInBounds_toArray, List.set_cons_zero, List.set_cons_succ]
          refine wpAnyH_take (i := 3) (oi := { dst := some 66, op := Go.Op.move (Go.Operand.tmp 7), type := 27, pos := "law.go:140", after := #[{ on := 1, ground := Go.Ground.guard }], guard := some (1, true) }) (v := undef) rfl (by kernel_rfl) (by kernel_rfl) (by kernel_rfl) (fun _ _ _ h => h) (Or.inr ⟨by rfl, rfl⟩) (by assumption) ?_
          try simp only [Act.put, List.setIfInBounds_toArray, List.set_cons_zero, List.set_cons_succ]
          refine wpAnyH_take (i := 4) (oi := { dst := some 67, op := Go.Op.move (Go.Operand.tmp 10), type := 3, pos := "law.go:140", after := #[{ on := 1, ground := Go.Ground.guard }], guard := some (1, true) }) (v := undef) rfl (by kernel_rfl) (by kernel_rfl) (by kernel_rfl) (fun _ _ _ h => h) (Or.inr ⟨by rfl, rfl⟩) (by assumption) ?_
          try simp only [Act.put, List.setIfInBounds_toArray, List.set_cons_zero, List.set_cons_succ]
          refine wpAnyH_take (i := 5) (oi := { dst := some 68, op := Go.Op.indexAddr 27 (Go.Operand.tmp 66) (Go.Operand.tmp 67), type := 0, pos := "law.go:140", after := #[{ on := 3, ground := Go.Ground.data }, { on := 4, ground := Go.Ground.data }, { on := 1, ground := Go.Ground.guard }], guard := some (1, true) }) (v := undef) rfl (by kernel_rfl) (by kernel_rfl) (by kernel_rfl) (fun _ _ _ h => h) (Or.inr ⟨by rfl, rfl⟩) (by assumption) ?_
          try simp only [Act.put, List.setIfInBounds_toArray, List.set_cons_zero, List.set_cons_succ]
          refine wpAnyH_take (i := 6) (oi := { dst := some 69, op := Go.Op.load 3 (Go.Operand.tmp 68), type := 3, pos := "law.go:140", after := #[{ on := 5, ground := Go.Ground.data }, { on := 1, ground := Go.Ground.guard }], guard := some (1, true) }) (v := undef) rfl (by kernel_rfl) (by kernel_rfl) (by kernel_rfl) (fun _ _ _ h => h) (Or.inr ⟨by rfl, rfl⟩) (by assumption) ?_
          try simp only [Act.put, List.setIfInBounds_toArray, List.set_cons_zero, List.set_cons_succ]
          refine wpAnyH_take (i := 7) (oi := { dst := some 70, op := Go.Op.call { callee := Go.Callee.value (Go.Operand.func 10), args := #[Go.Operand.tmp 65, Go.Operand.tmp 69], argTypes := #[24, 3] }, type := 27, pos := "law.go:140", after := #[{ on := 2, ground := Go.Ground.data }, { on := 6, ground := Go.Ground.data }, { on := 1, ground := Go.Ground.chain }, { on := 1, ground := Go.Ground.guard }], guard := some (1, true) }) (v := undef) rfl (by kernel_rfl) (by kernel_rfl) (by kernel_rfl) (fun _ _ _ h => h) (Or.inr ⟨by rfl, rfl⟩) (by assumption) ?_
          try simp only [Act.put, List.setIfInBounds_toArray, List.set_cons_zero, List.set_cons_succ]
          refine wpAnyH_take (i := 8) (oi := { dst := some 71, op := Go.Op.indexAddr 27 (Go.Operand.tmp 70) (Go.Operand.const (Go.Value.int Go.IntKind.i64 2)), type := 0, pos := "law.go:140", after := #[{ on := 7, ground := Go.Ground.data }, { on := 1, ground := Go.Ground.guard }], guard := some (1, true) }) (v := undef) rfl (by kernel_rfl) (by kernel_rfl) (by kernel_rfl) (fun _ _ _ h => h) (Or.inr ⟨by rfl, rfl⟩) (by assumption) ?_
          try simp only [Act.put, List.setIfInBounds_toArray, List.set_cons_zero, List.set_cons_succ]
          refine wpAnyH_take (i := 9) (oi := { dst := some 72, op := Go.Op.load 3 (Go.Operand.tmp 71), type := 3, pos := "law.go:140", after := #[{ on := 8, ground := Go.Ground.data }, { on := 1, ground := Go.Ground.guard }], guard := some (1, true) }) (v := undef) rfl (by kernel_rfl) (by kernel_rfl) (by kernel_rfl) (fun _ _ _ h => h) (Or.inr ⟨by rfl, rfl⟩) (by assumption) ?_
          try simp only [Act.put, List.setIfInBounds_toArray, List.set_cons_zero, List.set_cons_succ]
          refine wpAnyH_take (i := 10) (oi := { dst := some 73, op := Go.Op.load 24 (Go.Operand.tmp 3), type := 24, pos := "law.go:140", after := #[{ on := 1, ground := Go.Ground.guard }], guard := some (1, true) }) (v := undef) rfl (by kernel_rfl) (by kernel_rfl) (by kernel_rfl) (fun _ _ _ h => h) (Or.inr ⟨by rfl, rfl⟩) (by assumption) ?_
          try simp only [Act.put, List.setIfInBounds_toArray, List.set_cons_zero, List.set_cons_succ]
          refine wpAnyH_take (i := 11) (oi := { dst := some 74, op := Go.Op.move (Go.Operand.tmp 2), type := 3, pos := "law.go:140", after := #[{ on := 1, ground := Go.Ground.guard }], guard := some (1, true) }) (v := undef) rfl (by kernel_rfl) (by kernel_rfl) (by kernel_rfl) (fun _ _ _ h => h) (Or.inr ⟨by rfl, rfl⟩) (by assumption) ?_
          try simp only [Act.put, List.setIfInBounds_toArray, List.set_cons_zero, List.set_cons_succ]
          refine wpAnyH_take (i := 12) (oi := { dst := some 75, op := Go.Op.call { callee := Go.Callee.value (Go.Operand.func 10), args := #[Go.Operand.tmp 73, Go.Operand.tmp 74], argTypes := #[24, 3] }, type := 27, pos := "law.go:140", after := #[{ on := 10, ground := Go.Ground.data }, { on := 11, ground := Go.Ground.data }, { on := 7, ground := Go.Ground.chain }, { on := 1, ground := Go.Ground.guard }], guard := some (1, true) }) (v := undef) rfl (by kernel_rfl) (by kernel_rfl) (by kernel_rfl) (fun _ _ _ h => h) (Or.inr ⟨by rfl, rfl⟩) (by assumption) ?_
          try simp only [Act.put, List.setIfInBounds_toArray, List.set_cons_zero, List.set_cons_succ]
          refine wpAnyH_take (i := 13) (oi := { dst := some 76, op := Go.Op.indexAddr 27 (Go.Operand.tmp 75) (Go.Operand.const (Go.Value.int Go.IntKind.i64 2)), type := 0, pos := "law.go:140", after := #[{ on := 12, ground := Go.Ground.data }, { on := 1, ground := Go.Ground.guard }], guard := some (1, true) }) (v := undef) rfl (by kernel_rfl) (by kernel_rfl) (by kernel_rfl) (fun _ _ _ h => h) (Or.inr ⟨by rfl, rfl⟩) (by assumption) ?_
          try simp only [Act.put, List.setIfInBounds_toArray, List.set_cons_zero, List.set_cons_succ]
          refine wpAnyH_take (i := 14) (oi := { dst := some 77, op := Go.Op.load 3 (Go.Operand.tmp 76), type := 3, pos := "law.go:140", after := #[{ on := 13, ground := Go.Ground.data }, { on := 1, ground := Go.Ground.guard }], guard := some (1, true) }) (v := undef) rfl (by kernel_rfl) (by kernel_rfl) (by kernel_rfl) (fun _ _ _ h => h) (Or.inr ⟨by rfl, rfl⟩) (by assumption) ?_
          try simp only [Act.put, List.setIfInBounds_toArray, List.set_cons_zero, List.set_cons_succ]
          refine wpAnyH_take (i := 15) (oi := { dst := some 78, op := Go.Op.binOp Go.BinOp.geq 3 (Go.Operand.tmp 72) (Go.Operand.tmp 77) 3, type := 4, pos := "law.go:140", after := #[{ on := 9, ground := Go.Ground.data }, { on := 14, ground := Go.Ground.data }, { on := 1, ground := Go.Ground.guard }], guard := some (1, true) }) (v := undef) rfl (by kernel_rfl) (by kernel_rfl) (by kernel_rfl) (fun _ _ _ h => h) (Or.inr ⟨by rfl, rfl⟩) (by assumption) ?_
          try simp only [Act.put, List.setIfInBounds_toArray, List.set_cons_zero, List.set_cons_succ]
          refine wpAnyH_take (i := 16) (oi := { dst := some 79, op := Go.Op.pick (Go.Operand.tmp 64) (Go.Operand.tmp 78) (Go.Operand.const (Go.Value.bool false)), type := 4, pos := "law.go:140", after := #[{ on := 1, ground := Go.Ground.data }, { on := 15, ground := Go.Ground.data }], guard := none }) (v := ?vv17) rfl (by kernel_rfl) (by kernel_rfl) (by kernel_rfl) (fun _ _ _ h => h) (Or.inl ⟨by rfl, ?hy17⟩) (by assumption) ?rr17
          case hy17 => intro w hSw; (try dsimp only at hSw); go_simp; all_goals with_reducible rfl
          try simp only [Act.put, List.setIfInBounds_toArray, List.set_cons_zero, List.set_cons_succ]
          refine wpAnyH_take (i := 17) (oi := { dst := some 9, op := Go.Op.assign (Go.Operand.tmp 79), type := 4, pos := "law.go:140", after := #[{ on := 16, ground := Go.Ground.data }, { on := 12, ground := Go.Ground.chain }, { on := 0, ground := Go.Ground.phase }, { on := 1, ground := Go.Ground.phase }, { on := 2, ground := Go.Ground.phase }, { on := 3, ground := Go.Ground.phase }, { on := 4, ground := Go.Ground.phase }, { on := 5, ground := Go.Ground.phase }, { on := 6, ground := Go.Ground.phase }, { on := 7, ground := Go.Ground.phase }, { on := 8, ground := Go.Ground.phase }, { on := 9, ground := Go.Ground.phase }, { on := 10, ground := Go.Ground.phase }, { on := 11, ground := Go.Ground.phase }, { on := 12, ground := Go.Ground.phase }, { on := 13, ground := Go.Ground.phase }, { on := 14, ground := Go.Ground.phase }, { on := 15, ground := Go.Ground.phase }, { on := 16, ground := Go.Ground.phase }], guard := none }) (v := ?vv18) rfl (by kernel_rfl) (by kernel_rfl) (by kernel_rfl) (fun _ _ _ h => h) (Or.inl ⟨by rfl, ?hy18⟩) (by assumption) ?rr18
          case hy18 => intro w hSw; (try dsimp only at hSw); go_simp; all_goals with_reducible rfl
          try simp only [Act.put, List.setIfInBounds_toArray, List.set_cons_zero, List.set_cons_succ]
          refine wpAnyH_done (by kernel_rfl) ?_ _
          have BB := hH0.2.2.2.2
          have HJB := hid BB
          clear BB
          go_wp2_with fail
          go_roundw
          case rel => exact ⟨k + 1, by omega, by rw [HST.out]; rfl, by go_num, then_w HJ6.out HJB.out, then_w HB6.out HJB.out, HX6.out.later HJB.out⟩
          case measure => simp [intOf]; omega
        · by_cases hge : p2 ≤ q2
          · refine wp_region_held_drew (S := (fun w' => w'.cell? ⟨w.heap.size, 0, none⟩ = some (.slice A h.objs.length c) ∧ w'.cell? ⟨w.heap.size, 1, none⟩ = some (.int .i64 h.cap) ∧ w'.cell? ⟨w.heap.size, 2, none⟩ = some (.int .i64 h.last) ∧ w'.cell? ⟨bs, os + k, none⟩ = some (.int .i64 q) ∧ Below w6.heap.size w6 w')) (by kernel_rfl) ?_ (fun hH0 => ?_)
            · exact ⟨cell_later (Below.refl w6.heap.size w6).drew x0, cell_later (Below.refl w6.heap.size w6).drew x1, cell_later (Below.refl w6.heap.size w6).drew x2, cell_later (Below.refl w6.heap.size w6).drew y0, (Below.refl _ _).drew⟩
            refine wpAnyH_take (i := 0) (oi := { dst := some 63, op := Go.Op.move (Go.Operand.tmp 9), type := 4, pos := "law.go:140", after := #[], guard := none }) (v := ?vv19) rfl (by kernel_rfl) (by kernel_rfl) (by kernel_rfl) (fun _ _ _ h => h) (Or.inl ⟨by rfl, ?hy19⟩) (by assumption) ?rr19
            case hy19 => intro w hSw; (try dsimp only at hSw); go_simp; all_goals with_reducible rfl
            try simp only [Act.put, List.setIfInBounds_toArray, List.set_cons_zero, List.set_cons_succ]
            refine wpAnyH_take (i := 1) (oi := { dst := some 64, op := Go.Op.move (Go.Operand.tmp 63), type := 4, pos := "law.go:140", after := #[{ on := 0, ground := Go.Ground.data }], guard := none }) (v := ?vv20) rfl (by kernel_rfl) (by kernel_rfl) (by kernel_rfl) (fun _ _ _ h => h) (Or.inl ⟨by rfl, ?hy20⟩) (by assumption) ?rr20
            case hy20 => intro w hSw; (try dsimp only at hSw); go_simp; all_goals with_reducible rfl
            try simp only [Act.put, List.setIfInBounds_toArray, List.set_cons_zero, List.set_cons_succ]
            refine wpAnyH_take (i := 2) (oi := { dst := some 65, op := Go.Op.load 24 (Go.Operand.tmp 3), type := 24, pos := "law.go:140", after := #[{ on := 1, ground := Go.Ground.guard }], guard := some (1, true) }) (v := ?vv21) rfl (by kernel_rfl) (by kernel_rfl) (by kernel_rfl) (fun _ _ _ h => h) (Or.inl ⟨by rfl, ?hy21⟩) (by assumption) ?rr21
            case hy21 => intro w hSw; (try dsimp only at hSw); go_simp; all_goals with_reducible rfl
            try simp only [Act.put, List.setIfInBounds_toArray, List.set_cons_zero, List.set_cons_succ]
            refine wpAnyH_take (i := 3) (oi := { dst := some 66, op := Go.Op.move (Go.Operand.tmp 7), type := 27, pos := "law.go:140", after := #[{ on := 1, ground := Go.Ground.guard }], guard := some (1, true) }) (v := ?vv22) rfl (by kernel_rfl) (by kernel_rfl) (by kernel_rfl) (fun _ _ _ h => h) (Or.inl ⟨by rfl, ?hy22⟩) (by assumption) ?rr22
            case hy22 => intro w hSw; (try dsimp only at hSw); go_simp; all_goals with_reducible rfl
            try simp only [Act.put, List.setIfInBounds_toArray, List.set_cons_zero, List.set_cons_succ]
            refine wpAnyH_take (i := 4) (oi := { dst := some 67, op := Go.Op.move (Go.Operand.tmp 10), type := 3, pos := "law.go:140", after := #[{ on := 1, ground := Go.Ground.guard }], guard := some (1, true) }) (v := ?vv23) rfl (by kernel_rfl) (by kernel_rfl) (by kernel_rfl) (fun _ _ _ h => h) (Or.inl ⟨by rfl, ?hy23⟩) (by assumption) ?rr23
            case hy23 => intro w hSw; (try dsimp only at hSw); go_simp; all_goals with_reducible rfl
            try simp only [Act.put, List.setIfInBounds_toArray, List.set_cons_zero, List.set_cons_succ]
            refine wpAnyH_take (i := 5) (oi := { dst := some 68, op := Go.Op.indexAddr 27 (Go.Operand.tmp 66) (Go.Operand.tmp 67), type := 0, pos := "law.go:140", after := #[{ on := 3, ground := Go.Ground.data }, { on := 4, ground := Go.Ground.data }, { on := 1, ground := Go.Ground.guard }], guard := some (1, true) }) (v := ?vv24) rfl (by kernel_rfl) (by kernel_rfl) (by kernel_rfl) (fun _ _ _ h => h) (Or.inl ⟨by rfl, ?hy24⟩) (by assumption) ?rr24
            case hy24 => intro w hSw; (try dsimp only at hSw); go_simp; all_goals with_reducible rfl
            try simp only [Act.put, List.setIfInBounds_toArray, List.set_cons_zero, List.set_cons_succ]
            refine wpAnyH_take (i := 6) (oi := { dst := some 69, op := Go.Op.load 3 (Go.Operand.tmp 68), type := 3, pos := "law.go:140", after := #[{ on := 5, ground := Go.Ground.data }, { on := 1, ground := Go.Ground.guard }], guard := some (1, true) }) (v := ?vv25) rfl (by kernel_rfl) (by kernel_rfl) (by kernel_rfl) (fun _ _ _ h => h) (Or.inl ⟨by rfl, ?hy25⟩) (by assumption) ?rr25
            case hy25 => intro w hSw; (try dsimp only at hSw); go_simp; all_goals with_reducible rfl
            try simp only [Act.put, List.setIfInBounds_toArray, List.set_cons_zero, List.set_cons_succ]
            refine wpAnyH_take (i := 10) (oi := { dst := some 73, op := Go.Op.load 24 (Go.Operand.tmp 3), type := 24, pos := "law.go:140", after := #[{ on := 1, ground := Go.Ground.guard }], guard := some (1, true) }) (v := ?vv26) rfl (by kernel_rfl) (by kernel_rfl) (by kernel_rfl) (fun _ _ _ h => h) (Or.inl ⟨by rfl, ?hy26⟩) (by assumption) ?rr26
            case hy26 => intro w hSw; (try dsimp only at hSw); go_simp; all_goals with_reducible rfl
            try simp only [Act.put, List.setIfInBounds_toArray, List.set_cons_zero, List.set_cons_succ]
            refine wpAnyH_take (i := 11) (oi := { dst := some 74, op := Go.Op.move (Go.Operand.tmp 2), type := 3, pos := "law.go:140", after := #[{ on := 1, ground := Go.Ground.guard }], guard := some (1, true) }) (v := ?vv27) rfl (by kernel_rfl) (by kernel_rfl) (by kernel_rfl) (fun _ _ _ h => h) (Or.inl ⟨by rfl, ?hy27⟩) (by assumption) ?rr27
            case hy27 => intro w hSw; (try dsimp only at hSw); go_simp; all_goals with_reducible rfl
            try simp only [Act.put, List.setIfInBounds_toArray, List.set_cons_zero, List.set_cons_succ]
            refine wpAnyH_ready (rs := [7]) (by kernel_rfl) (by simp) ?_
            refine AllReadyH.cons (i := 7) (o := { dst := some 70, op := Go.Op.call { callee := Go.Callee.value (Go.Operand.func 10), args := #[Go.Operand.tmp 65, Go.Operand.tmp 69], argTypes := #[24, 3] }, type := 27, pos := "law.go:140", after := #[{ on := 2, ground := Go.Ground.data }, { on := 6, ground := Go.Ground.data }, { on := 1, ground := Go.Ground.chain }, { on := 1, ground := Go.Ground.guard }], guard := some (1, true) }) rfl (fun K hK => ?_) AllReadyH.nil
            go_simp
            go_at_call 10
            refine (rslots_any12 h q A c _ (HS.out.below (then_w HB6.out (hH0.2.2.2.2)))).mono ?_
            rintro e u1 ⟨S7, d7, rfl, hin, -, hb⟩
            rw [HQS.out] at hin ⊢
            obtain ⟨bt, ot, rfl, hbt, hct⟩ := hin (by simp)
            have z2 := hct 2 q2 rfl
            clear hin hbt hct
            refine hK.out _ _ ?_ (fun hH1 => ?_)
            · exact ⟨cell_later hb hH0.1, cell_later hb hH0.2.1, cell_later hb hH0.2.2.1, cell_later hb hH0.2.2.2.1, then_w hH0.2.2.2.2 hb⟩
            clear hK K
            try simp only [Act.put, List.setIfInBounds_toArray, List.set_cons_zero, List.set_cons_succ]
            clear hb
            refine wpAnyH_take (i := 8) (oi := { dst := some 71, op := Go.Op.indexAddr 27 (Go.Operand.tmp 70) (Go.Operand.const (Go.Value.int Go.IntKind.i64 2)), type := 0, pos := "law.go:140", after := #[{ on := 7, ground := Go.Ground.data }, { on := 1, ground := Go.Ground.guard }], guard := some (1, true) }) (v := ?vv28) rfl (by kernel_rfl) (by kernel_rfl) (by kernel_rfl) (fun _ _ _ h => h) (Or.inl ⟨by rfl, ?hy28⟩) (by assumption) ?rr28
            case hy28 => intro w hSw; (try dsimp only at hSw); go_simp; all_goals with_reducible rfl
            try simp only [Act.put, List.setIfInBounds_toArray, List.set_cons_zero, List.set_cons_succ]
            refine wpAnyH_ready (rs := [9, 12]) (by kernel_rfl) (by simp) ?_
            refine AllReadyH.cons (i := 9) (o := { dst := some 72, op := Go.Op.load 3 (Go.Operand.tmp 71), type := 3, pos := "law.go:140", after := #[{ on := 8, ground := Go.Ground.data }, { on := 1, ground := Go.Ground.guard }], guard := some (1, true) }) rfl (fun K hK => ?_) (AllReadyH.cons (i := 12) (o := { dst := some 75, op := Go.Op.call { callee := Go.Callee.value (Go.Operand.func 10), args := #[Go.Operand.tmp 73, Go.Operand.tmp 74], argTypes := #[24, 3] }, type := 27, pos := "law.go:140", after := #[{ on := 10, ground := Go.Ground.data }, { on := 11, ground := Go.Ground.data }, { on := 7, ground := Go.Ground.chain }, { on := 1, ground := Go.Ground.guard }], guard := some (1, true) }) rfl (fun K hK => ?_) AllReadyH.nil)
            · go_simp
              refine hK.out _ _ ?_ (fun hH2 => ?_)
              · exact hH1
              clear hK K
              try simp only [Act.put, List.setIfInBounds_toArray, List.set_cons_zero, List.set_cons_succ]
              refine wpAnyH_ready (rs := [12]) (by kernel_rfl) (by simp) ?_
              refine AllReadyH.cons (i := 12) (o := { dst := some 75, op := Go.Op.call { callee := Go.Callee.value (Go.Operand.func 10), args := #[Go.Operand.tmp 73, Go.Operand.tmp 74], argTypes := #[24, 3] }, type := 27, pos := "law.go:140", after := #[{ on := 10, ground := Go.Ground.data }, { on := 11, ground := Go.Ground.data }, { on := 7, ground := Go.Ground.chain }, { on := 1, ground := Go.Ground.guard }], guard := some (1, true) }) rfl (fun K hK => ?_) AllReadyH.nil
              go_simp
              go_at_call 10
              refine (rslots_any12 h p A c _ (HS.out.below (then_w HB6.out (hH2.2.2.2.2)))).mono ?_
              rintro e u3 ⟨S8, d8, rfl, hin, -, hb⟩
              rw [HPS3.out] at hin ⊢
              obtain ⟨bu, ou, rfl, hbu, hcu⟩ := hin (by simp)
              have y2 := hcu 2 p2 rfl
              replace z2 := cell_later hb z2
              clear hin hbu hcu
              refine hK.out _ _ ?_ (fun hH3 => ?_)
              · exact ⟨cell_later hb hH2.1, cell_later hb hH2.2.1, cell_later hb hH2.2.2.1, cell_later hb hH2.2.2.2.1, then_w hH2.2.2.2.2 hb⟩
              clear hK K
              try simp only [Act.put, List.setIfInBounds_toArray, List.set_cons_zero, List.set_cons_succ]
              clear hb
              refine wpAnyH_take (i := 13) (oi := { dst := some 76, op := Go.Op.indexAddr 27 (Go.Operand.tmp 75) (Go.Operand.const (Go.Value.int Go.IntKind.i64 2)), type := 0, pos := "law.go:140", after := #[{ on := 12, ground := Go.Ground.data }, { on := 1, ground := Go.Ground.guard }], guard := some (1, true) }) (v := ?vv29) rfl (by kernel_rfl) (by kernel_rfl) (by kernel_rfl) (fun _ _ _ h => h) (Or.inl ⟨by rfl, ?hy29⟩) (by assumption) ?rr29
              case hy29 => intro w hSw; (try dsimp only at hSw); go_simp; all_goals with_reducible rfl
              try simp only [Act.put, List.setIfInBounds_toArray, List.set_cons_zero, List.set_cons_succ]
              refine wpAnyH_ready (rs := [14]) (by kernel_rfl) (by simp) ?_
              refine AllReadyH.cons (i := 14) (o := { dst := some 77, op := Go.Op.load 3 (Go.Operand.tmp 76), type := 3, pos := "law.go:140", after := #[{ on := 13, ground := Go.Ground.data }, { on := 1, ground := Go.Ground.guard }], guard := some (1, true) }) rfl (fun K hK => ?_) AllReadyH.nil
              go_simp
              refine hK.out _ _ ?_ (fun hH4 => ?_)
              · exact hH3
              clear hK K
              try simp only [Act.put, List.setIfInBounds_toArray, List.set_cons_zero, List.set_cons_succ]
              refine wpAnyH_take (i := 15) (oi := { dst := some 78, op := Go.Op.binOp Go.BinOp.geq 3 (Go.Operand.tmp 72) (Go.Operand.tmp 77) 3, type := 4, pos := "law.go:140", after := #[{ on := 9, ground := Go.Ground.data }, { on := 14, ground := Go.Ground.data }, { on := 1, ground := Go.Ground.guard }], guard := some (1, true) }) (v := ?vv30) rfl (by kernel_rfl) (by kernel_rfl) (by kernel_rfl) (fun _ _ _ h => h) (Or.inl ⟨by rfl, ?hy30⟩) (by assumption) ?rr30
              case hy30 => intro w hSw; (try dsimp only at hSw); go_simp; all_goals with_reducible rfl
              try simp only [Act.put, List.setIfInBounds_toArray, List.set_cons_zero, List.set_cons_succ]
              refine wpAnyH_take (i := 16) (oi := { dst := some 79, op := Go.Op.pick (Go.Operand.tmp 64) (Go.Operand.tmp 78) (Go.Operand.const (Go.Value.bool false)), type := 4, pos := "law.go:140", after := #[{ on := 1, ground := Go.Ground.data }, { on := 15, ground := Go.Ground.data }], guard := none }) (v := ?vv31) rfl (by kernel_rfl) (by kernel_rfl) (by kernel_rfl) (fun _ _ _ h => h) (Or.inl ⟨by rfl, ?hy31⟩) (by assumption) ?rr31
              case hy31 => intro w hSw; (try dsimp only at hSw); go_simp; all_goals with_reducible rfl
              try simp only [Act.put, List.setIfInBounds_toArray, List.set_cons_zero, List.set_cons_succ]
              refine wpAnyH_take (i := 17) (oi := { dst := some 9, op := Go.Op.assign (Go.Operand.tmp 79), type := 4, pos := "law.go:140", after := #[{ on := 16, ground := Go.Ground.data }, { on := 12, ground := Go.Ground.chain }, { on := 0, ground := Go.Ground.phase }, { on := 1, ground := Go.Ground.phase }, { on := 2, ground := Go.Ground.phase }, { on := 3, ground := Go.Ground.phase }, { on := 4, ground := Go.Ground.phase }, { on := 5, ground := Go.Ground.phase }, { on := 6, ground := Go.Ground.phase }, { on := 7, ground := Go.Ground.phase }, { on := 8, ground := Go.Ground.phase }, { on := 9, ground := Go.Ground.phase }, { on := 10, ground := Go.Ground.phase }, { on := 11, ground := Go.Ground.phase }, { on := 12, ground := Go.Ground.phase }, { on := 13, ground := Go.Ground.phase }, { on := 14, ground := Go.Ground.phase }, { on := 15, ground := Go.Ground.phase }, { on := 16, ground := Go.Ground.phase }], guard := none }) (v := ?vv32) rfl (by kernel_rfl) (by kernel_rfl) (by kernel_rfl) (fun _ _ _ h => h) (Or.inl ⟨by rfl, ?hy32⟩) (by assumption) ?rr32
              case hy32 => intro w hSw; (try dsimp only at hSw); go_simp; all_goals with_reducible rfl
              try simp only [Act.put, List.setIfInBounds_toArray, List.set_cons_zero, List.set_cons_succ]
              refine wpAnyH_done (by kernel_rfl) ?_ _
              have BB := hH4.2.2.2.2
              have HJB := hid BB
              clear BB
              go_wp2_with fail
              go_roundw
              case rel => exact ⟨k + 1, by omega, by rw [HST.out, HQ2.out, ← HP2.out]; simp [hge], by go_num, then_w HJ6.out HJB.out, then_w HB6.out HJB.out, HX6.out.later HJB.out⟩
              case measure => simp [intOf]; omega
            · go_simp
              go_at_call 10
              refine (rslots_any12 h p A c _ (HS.out.below (then_w HB6.out (hH1.2.2.2.2)))).mono ?_
              rintro e u2 ⟨S8, d8, rfl, hin, -, hb⟩
              rw [HPS3.out] at hin ⊢
              obtain ⟨bu, ou, rfl, hbu, hcu⟩ := hin (by simp)
              have y2 := hcu 2 p2 rfl
              replace z2 := cell_later hb z2
              clear hin hbu hcu
              refine hK.out _ _ ?_ (fun hH2 => ?_)
              · exact ⟨cell_later hb hH1.1, cell_later hb hH1.2.1, cell_later hb hH1.2.2.1, cell_later hb hH1.2.2.2.1, then_w hH1.2.2.2.2 hb⟩
              clear hK K
              try simp only [Act.put, List.setIfInBounds_toArray, List.set_cons_zero, List.set_cons_succ]
              clear hb
              refine wpAnyH_take (i := 13) (oi := { dst := some 76, op := Go.Op.indexAddr 27 (Go.Operand.tmp 75) (Go.Operand.const (Go.Value.int Go.IntKind.i64 2)), type := 0, pos := "law.go:140", after := #[{ on := 12, ground := Go.Ground.data }, { on := 1, ground := Go.Ground.guard }], guard := some (1, true) }) (v := ?vv33) rfl (by kernel_rfl) (by kernel_rfl) (by kernel_rfl) (fun _ _ _ h => h) (Or.inl ⟨by rfl, ?hy33⟩) (by assumption) ?rr33
              case hy33 => intro w hSw; (try dsimp only at hSw); go_simp; all_goals with_reducible rfl
              try simp only [Act.put, List.setIfInBounds_toArray, List.set_cons_zero, List.set_cons_succ]
              refine wpAnyH_ready (rs := [9, 14]) (by kernel_rfl) (by simp) ?_
              refine AllReadyH.cons (i := 9) (o := { dst := some 72, op := Go.Op.load 3 (Go.Operand.tmp 71), type := 3, pos := "law.go:140", after := #[{ on := 8, ground := Go.Ground.data }, { on := 1, ground := Go.Ground.guard }], guard := some (1, true) }) rfl (fun K hK => ?_) (AllReadyH.cons (i := 14) (o := { dst := some 77, op := Go.Op.load 3 (Go.Operand.tmp 76), type := 3, pos := "law.go:140", after := #[{ on := 13, ground := Go.Ground.data }, { on := 1, ground := Go.Ground.guard }], guard := some (1, true) }) rfl (fun K hK => ?_) AllReadyH.nil)
              · go_simp
                refine hK.out _ _ ?_ (fun hH3 => ?_)
                · exact hH2
                clear hK K
                try simp only [Act.put, List.setIfInBounds_toArray, List.set_cons_zero, List.set_cons_succ]
                refine wpAnyH_ready (rs := [14]) (by kernel_rfl) (by simp) ?_
                refine AllReadyH.cons (i := 14) (o := { dst := some 77, op := Go.Op.load 3 (Go.Operand.tmp 76), type := 3, pos := "law.go:140", after := #[{ on := 13, ground := Go.Ground.data }, { on := 1, ground := Go.Ground.guard }], guard := some (1, true) }) rfl (fun K hK => ?_) AllReadyH.nil
                go_simp
                refine hK.out _ _ ?_ (fun hH4 => ?_)
                · exact hH3
                clear hK K
                try simp only [Act.put, List.setIfInBounds_toArray, List.set_cons_zero, List.set_cons_succ]
                refine wpAnyH_take (i := 15) (oi := { dst := some 78, op := Go.Op.binOp Go.BinOp.geq 3 (Go.Operand.tmp 72) (Go.Operand.tmp 77) 3, type := 4, pos := "law.go:140", after := #[{ on := 9, ground := Go.Ground.data }, { on := 14, ground := Go.Ground.data }, { on := 1, ground := Go.Ground.guard }], guard := some (1, true) }) (v := ?vv34) rfl (by kernel_rfl) (by kernel_rfl) (by kernel_rfl) (fun _ _ _ h => h) (Or.inl ⟨by rfl, ?hy34⟩) (by assumption) ?rr34
                case hy34 => intro w hSw; (try dsimp only at hSw); go_simp; all_goals with_reducible rfl
                try simp only [Act.put, List.setIfInBounds_toArray, List.set_cons_zero, List.set_cons_succ]
                refine wpAnyH_take (i := 16) (oi := { dst := some 79, op := Go.Op.pick (Go.Operand.tmp 64) (Go.Operand.tmp 78) (Go.Operand.const (Go.Value.bool false)), type := 4, pos := "law.go:140", after := #[{ on := 1, ground := Go.Ground.data }, { on := 15, ground := Go.Ground.data }], guard := none }) (v := ?vv35) rfl (by kernel_rfl) (by kernel_rfl) (by kernel_rfl) (fun _ _ _ h => h) (Or.inl ⟨by rfl, ?hy35⟩) (by assumption) ?rr35
                case hy35 => intro w hSw; (try dsimp only at hSw); go_simp; all_goals with_reducible rfl
                try simp only [Act.put, List.setIfInBounds_toArray, List.set_cons_zero, List.set_cons_succ]
                refine wpAnyH_take (i := 17) (oi := { dst := some 9, op := Go.Op.assign (Go.Operand.tmp 79), type := 4, pos := "law.go:140", after := #[{ on := 16, ground := Go.Ground.data }, { on := 12, ground := Go.Ground.chain }, { on := 0, ground := Go.Ground.phase }, { on := 1, ground := Go.Ground.phase }, { on := 2, ground := Go.Ground.phase }, { on := 3, ground := Go.Ground.phase }, { on := 4, ground := Go.Ground.phase }, { on := 5, ground := Go.Ground.phase }, { on := 6, ground := Go.Ground.phase }, { on := 7, ground := Go.Ground.phase }, { on := 8, ground := Go.Ground.phase }, { on := 9, ground := Go.Ground.phase }, { on := 10, ground := Go.Ground.phase }, { on := 11, ground := Go.Ground.phase }, { on := 12, ground := Go.Ground.phase }, { on := 13, ground := Go.Ground.phase }, { on := 14, ground := Go.Ground.phase }, { on := 15, ground := Go.Ground.phase }, { on := 16, ground := Go.Ground.phase }], guard := none }) (v := ?vv36) rfl (by kernel_rfl) (by kernel_rfl) (by kernel_rfl) (fun _ _ _ h => h) (Or.inl ⟨by rfl, ?hy36⟩) (by assumption) ?rr36
                case hy36 => intro w hSw; (try dsimp only at hSw); go_simp; all_goals with_reducible rfl
                try simp only [Act.put, List.setIfInBounds_toArray, List.set_cons_zero, List.set_cons_succ]
                refine wpAnyH_done (by kernel_rfl) ?_ _
                have BB := hH4.2.2.2.2
                have HJB := hid BB
                clear BB
                go_wp2_with fail
                go_roundw
                case rel => exact ⟨k + 1, by omega, by rw [HST.out, HQ2.out, ← HP2.out]; simp [hge], by go_num, then_w HJ6.out HJB.out, then_w HB6.out HJB.out, HX6.out.later HJB.out⟩
                case measure => simp [intOf]; omega
              · go_simp
                refine hK.out _ _ ?_ (fun hH3 => ?_)
                · exact hH2
                clear hK K
                try simp only [Act.put, List.setIfInBounds_toArray, List.set_cons_zero, List.set_cons_succ]
                refine wpAnyH_ready (rs := [9]) (by kernel_rfl) (by simp) ?_
                refine AllReadyH.cons (i := 9) (o := { dst := some 72, op := Go.Op.load 3 (Go.Operand.tmp 71), type := 3, pos := "law.go:140", after := #[{ on := 8, ground := Go.Ground.data }, { on := 1, ground := Go.Ground.guard }], guard := some (1, true) }) rfl (fun K hK => ?_) AllReadyH.nil
                go_simp
                refine hK.out _ _ ?_ (fun hH4 => ?_)
                · exact hH3
                clear hK K
                try simp only [Act.put, List.setIfInBounds_toArray, List.set_cons_zero, List.set_cons_succ]
                refine wpAnyH_take (i := 15) (oi := { dst := some 78, op := Go.Op.binOp Go.BinOp.geq 3 (Go.Operand.tmp 72) (Go.Operand.tmp 77) 3, type := 4, pos := "law.go:140", after := #[{ on := 9, ground := Go.Ground.data }, { on := 14, ground := Go.Ground.data }, { on := 1, ground := Go.Ground.guard }], guard := some (1, true) }) (v := ?vv37) rfl (by kernel_rfl) (by kernel_rfl) (by kernel_rfl) (fun _ _ _ h => h) (Or.inl ⟨by rfl, ?hy37⟩) (by assumption) ?rr37
                case hy37 => intro w hSw; (try dsimp only at hSw); go_simp; all_goals with_reducible rfl
                try simp only [Act.put, List.setIfInBounds_toArray, List.set_cons_zero, List.set_cons_succ]
                refine wpAnyH_take (i := 16) (oi := { dst := some 79, op := Go.Op.pick (Go.Operand.tmp 64) (Go.Operand.tmp 78) (Go.Operand.const (Go.Value.bool false)), type := 4, pos := "law.go:140", after := #[{ on := 1, ground := Go.Ground.data }, { on := 15, ground := Go.Ground.data }], guard := none }) (v := ?vv38) rfl (by kernel_rfl) (by kernel_rfl) (by kernel_rfl) (fun _ _ _ h => h) (Or.inl ⟨by rfl, ?hy38⟩) (by assumption) ?rr38
                case hy38 => intro w hSw; (try dsimp only at hSw); go_simp; all_goals with_reducible rfl
                try simp only [Act.put, List.setIfInBounds_toArray, List.set_cons_zero, List.set_cons_succ]
                refine wpAnyH_take (i := 17) (oi := { dst := some 9, op := Go.Op.assign (Go.Operand.tmp 79), type := 4, pos := "law.go:140", after := #[{ on := 16, ground := Go.Ground.data }, { on := 12, ground := Go.Ground.chain }, { on := 0, ground := Go.Ground.phase }, { on := 1, ground := Go.Ground.phase }, { on := 2, ground := Go.Ground.phase }, { on := 3, ground := Go.Ground.phase }, { on := 4, ground := Go.Ground.phase }, { on := 5, ground := Go.Ground.phase }, { on := 6, ground := Go.Ground.phase }, { on := 7, ground := Go.Ground.phase }, { on := 8, ground := Go.Ground.phase }, { on := 9, ground := Go.Ground.phase }, { on := 10, ground := Go.Ground.phase }, { on := 11, ground := Go.Ground.phase }, { on := 12, ground := Go.Ground.phase }, { on := 13, ground := Go.Ground.phase }, { on := 14, ground := Go.Ground.phase }, { on := 15, ground := Go.Ground.phase }, { on := 16, ground := Go.Ground.phase }], guard := none }) (v := ?vv39) rfl (by kernel_rfl) (by kernel_rfl) (by kernel_rfl) (fun _ _ _ h => h) (Or.inl ⟨by rfl, ?hy39⟩) (by assumption) ?rr39
                case hy39 => intro w hSw; (try dsimp only at hSw); go_simp; all_goals with_reducible rfl
                try simp only [Act.put, List.setIfInBounds_toArray, List.set_cons_zero, List.set_cons_succ]
                refine wpAnyH_done (by kernel_rfl) ?_ _
                have BB := hH4.2.2.2.2
                have HJB := hid BB
                clear BB
                go_wp2_with fail
                go_roundw
                case rel => exact ⟨k + 1, by omega, by rw [HST.out, HQ2.out, ← HP2.out]; simp [hge], by go_num, then_w HJ6.out HJB.out, then_w HB6.out HJB.out, HX6.out.later HJB.out⟩
                case measure => simp [intOf]; omega
          · refine wp_region_held_drew (S := (fun w' => w'.cell? ⟨w.heap.size, 0, none⟩ = some (.slice A h.objs.length c) ∧ w'.cell? ⟨w.heap.size, 1, none⟩ = some (.int .i64 h.cap) ∧ w'.cell? ⟨w.heap.size, 2, none⟩ = some (.int .i64 h.last) ∧ w'.cell? ⟨bs, os + k, none⟩ = some (.int .i64 q) ∧ Below w6.heap.size w6 w')) (by kernel_rfl) ?_ (fun hH0 => ?_)
            · exact ⟨cell_later (Below.refl w6.heap.size w6).drew x0, cell_later (Below.refl w6.heap.size w6).drew x1, cell_later (Below.refl w6.heap.size w6).drew x2, cell_later (Below.refl w6.heap.size w6).drew y0, (Below.refl _ _).drew⟩
            refine wpAnyH_take (i := 0) (oi := { dst := some 63, op := Go.Op.move (Go.Operand.tmp 9), type := 4, pos := "law.go:140", after := #[], guard := none }) (v := ?vv40) rfl (by kernel_rfl) (by kernel_rfl) (by kernel_rfl) (fun _ _ _ h => h) (Or.inl ⟨by rfl, ?hy40⟩) (by assumption) ?rr40
            case hy40 => intro w hSw; (try dsimp only at hSw); go_simp; all_goals with_reducible rfl
            try simp only [Act.put, List.setIfInBounds_toArray, List.set_cons_zero, List.set_cons_succ]
            refine wpAnyH_take (i := 1) (oi := { dst := some 64, op := Go.Op.move (Go.Operand.tmp 63), type := 4, pos := "law.go:140", after := #[{ on := 0, ground := Go.Ground.data }], guard := none }) (v := ?vv41) rfl (by kernel_rfl) (by kernel_rfl) (by kernel_rfl) (fun _ _ _ h => h) (Or.inl ⟨by rfl, ?hy41⟩) (by assumption) ?rr41
            case hy41 => intro w hSw; (try dsimp only at hSw); go_simp; all_goals with_reducible rfl
            try simp only [Act.put, List.setIfInBounds_toArray, List.set_cons_zero, List.set_cons_succ]
            refine wpAnyH_take (i := 2) (oi := { dst := some 65, op := Go.Op.load 24 (Go.Operand.tmp 3), type := 24, pos := "law.go:140", after := #[{ on := 1, ground := Go.Ground.guard }], guard := some (1, true) }) (v := ?vv42) rfl (by kernel_rfl) (by kernel_rfl) (by kernel_rfl) (fun _ _ _ h => h) (Or.inl ⟨by rfl, ?hy42⟩) (by assumption) ?rr42
            case hy42 => intro w hSw; (try dsimp only at hSw); go_simp; all_goals with_reducible rfl
            try simp only [Act.put, List.setIfInBounds_toArray, List.set_cons_zero, List.set_cons_succ]
            refine wpAnyH_take (i := 3) (oi := { dst := some 66, op := Go.Op.move (Go.Operand.tmp 7), type := 27, pos := "law.go:140", after := #[{ on := 1, ground := Go.Ground.guard }], guard := some (1, true) }) (v := ?vv43) rfl (by kernel_rfl) (by kernel_rfl) (by kernel_rfl) (fun _ _ _ h => h) (Or.inl ⟨by rfl, ?hy43⟩) (by assumption) ?rr43
            case hy43 => intro w hSw; (try dsimp only at hSw); go_simp; all_goals with_reducible rfl
            try simp only [Act.put, List.setIfInBounds_toArray, List.set_cons_zero, List.set_cons_succ]
            refine wpAnyH_take (i := 4) (oi := { dst := some 67, op := Go.Op.move (Go.Operand.tmp 10), type := 3, pos := "law.go:140", after := #[{ on := 1, ground := Go.Ground.guard }], guard := some (1, true) }) (v := ?vv44) rfl (by kernel_rfl) (by kernel_rfl) (by kernel_rfl) (fun _ _ _ h => h) (Or.inl ⟨by rfl, ?hy44⟩) (by assumption) ?rr44
            case hy44 => intro w hSw; (try dsimp only at hSw); go_simp; all_goals with_reducible rfl
            try simp only [Act.put, List.setIfInBounds_toArray, List.set_cons_zero, List.set_cons_succ]
            refine wpAnyH_take (i := 5) (oi := { dst := some 68, op := Go.Op.indexAddr 27 (Go.Operand.tmp 66) (Go.Operand.tmp 67), type := 0, pos := "law.go:140", after := #[{ on := 3, ground := Go.Ground.data }, { on := 4, ground := Go.Ground.data }, { on := 1, ground := Go.Ground.guard }], guard := some (1, true) }) (v := ?vv45) rfl (by kernel_rfl) (by kernel_rfl) (by kernel_rfl) (fun _ _ _ h => h) (Or.inl ⟨by rfl, ?hy45⟩) (by assumption) ?rr45
            case hy45 => intro w hSw; (try dsimp only at hSw); go_simp; all_goals with_reducible rfl
            try simp only [Act.put, List.setIfInBounds_toArray, List.set_cons_zero, List.set_cons_succ]
            refine wpAnyH_take (i := 6) (oi := { dst := some 69, op := Go.Op.load 3 (Go.Operand.tmp 68), type := 3, pos := "law.go:140", after := #[{ on := 5, ground := Go.Ground.data }, { on := 1, ground := Go.Ground.guard }], guard := some (1, true) }) (v := ?vv46) rfl (by kernel_rfl) (by kernel_rfl) (by kernel_rfl) (fun _ _ _ h => h) (Or.inl ⟨by rfl, ?hy46⟩) (by assumption) ?rr46
            case hy46 => intro w hSw; (try dsimp only at hSw); go_simp; all_goals with_reducible rfl
            try simp only [Act.put, List.setIfInBounds_toArray, List.set_cons_zero, List.set_cons_succ]
            refine wpAnyH_take (i := 10) (oi := { dst := some 73, op := Go.Op.load 24 (Go.Operand.tmp 3), type := 24, pos := "law.go:140", after := #[{ on := 1, ground := Go.Ground.guard }], guard := some (1, true) }) (v := ?vv47) rfl (by kernel_rfl) (by kernel_rfl) (by kernel_rfl) (fun _ _ _ h => h) (Or.inl ⟨by rfl, ?hy47⟩) (by assumption) ?rr47
            case hy47 => intro w hSw; (try dsimp only at hSw); go_simp; all_goals with_reducible rfl
            try simp only [Act.put, List.setIfInBounds_toArray, List.set_cons_zero, List.set_cons_succ]
            refine wpAnyH_take (i := 11) (oi := { dst := some 74, op := Go.Op.move (Go.Operand.tmp 2), type := 3, pos := "law.go:140", after := #[{ on := 1, ground := Go.Ground.guard }], guard := some (1, true) }) (v := ?vv48) rfl (by kernel_rfl) (by kernel_rfl) (by kernel_rfl) (fun _ _ _ h => h) (Or.inl ⟨by rfl, ?hy48⟩) (by assumption) ?rr48
            case hy48 => intro w hSw; (try dsimp only at hSw); go_simp; all_goals with_reducible rfl
            try simp only [Act.put, List.setIfInBounds_toArray, List.set_cons_zero, List.set_cons_succ]
            refine wpAnyH_ready (rs := [7]) (by kernel_rfl) (by simp) ?_
            refine AllReadyH.cons (i := 7) (o := { dst := some 70, op := Go.Op.call { callee := Go.Callee.value (Go.Operand.func 10), args := #[Go.Operand.tmp 65, Go.Operand.tmp 69], argTypes := #[24, 3] }, type := 27, pos := "law.go:140", after := #[{ on := 2, ground := Go.Ground.data }, { on := 6, ground := Go.Ground.data }, { on := 1, ground := Go.Ground.chain }, { on := 1, ground := Go.Ground.guard }], guard := some (1, true) }) rfl (fun K hK => ?_) AllReadyH.nil
            go_simp
            go_at_call 10
            refine (rslots_any12 h q A c _ (HS.out.below (then_w HB6.out (hH0.2.2.2.2)))).mono ?_
            rintro e u1 ⟨S7, d7, rfl, hin, -, hb⟩
            rw [HQS.out] at hin ⊢
            obtain ⟨bt, ot, rfl, hbt, hct⟩ := hin (by simp)
            have z2 := hct 2 q2 rfl
            clear hin hbt hct
            refine hK.out _ _ ?_ (fun hH1 => ?_)
            · exact ⟨cell_later hb hH0.1, cell_later hb hH0.2.1, cell_later hb hH0.2.2.1, cell_later hb hH0.2.2.2.1, then_w hH0.2.2.2.2 hb⟩
            clear hK K
            try simp only [Act.put, List.setIfInBounds_toArray, List.set_cons_zero, List.set_cons_succ]
            clear hb
            refine wpAnyH_take (i := 8) (oi := { dst := some 71, op := Go.Op.indexAddr 27 (Go.Operand.tmp 70) (Go.Operand.const (Go.Value.int Go.IntKind.i64 2)), type := 0, pos := "law.go:140", after := #[{ on := 7, ground := Go.Ground.data }, { on := 1, ground := Go.Ground.guard }], guard := some (1, true) }) (v := ?vv49) rfl (by kernel_rfl) (by kernel_rfl) (by kernel_rfl) (fun _ _ _ h => h) (Or.inl ⟨by rfl, ?hy49⟩) (by assumption) ?rr49
            case hy49 => intro w hSw; (try dsimp only at hSw); go_simp; all_goals with_reducible rfl
            try simp only [Act.put, List.setIfInBounds_toArray, List.set_cons_zero, List.set_cons_succ]
            refine wpAnyH_ready (rs := [9, 12]) (by kernel_rfl) (by simp) ?_
            refine AllReadyH.cons (i := 9) (o := { dst := some 72, op := Go.Op.load 3 (Go.Operand.tmp 71), type := 3, pos := "law.go:140", after := #[{ on := 8, ground := Go.Ground.data }, { on := 1, ground := Go.Ground.guard }], guard := some (1, true) }) rfl (fun K hK => ?_) (AllReadyH.cons (i := 12) (o := { dst := some 75, op := Go.Op.call { callee := Go.Callee.value (Go.Operand.func 10), args := #[Go.Operand.tmp 73, Go.Operand.tmp 74], argTypes := #[24, 3] }, type := 27, pos := "law.go:140", after := #[{ on := 10, ground := Go.Ground.data }, { on := 11, ground := Go.Ground.data }, { on := 7, ground := Go.Ground.chain }, { on := 1, ground := Go.Ground.guard }], guard := some (1, true) }) rfl (fun K hK => ?_) AllReadyH.nil)
            · go_simp
              refine hK.out _ _ ?_ (fun hH2 => ?_)
              · exact hH1
              clear hK K
              try simp only [Act.put, List.setIfInBounds_toArray, List.set_cons_zero, List.set_cons_succ]
              refine wpAnyH_ready (rs := [12]) (by kernel_rfl) (by simp) ?_
              refine AllReadyH.cons (i := 12) (o := { dst := some 75, op := Go.Op.call { callee := Go.Callee.value (Go.Operand.func 10), args := #[Go.Operand.tmp 73, Go.Operand.tmp 74], argTypes := #[24, 3] }, type := 27, pos := "law.go:140", after := #[{ on := 10, ground := Go.Ground.data }, { on := 11, ground := Go.Ground.data }, { on := 7, ground := Go.Ground.chain }, { on := 1, ground := Go.Ground.guard }], guard := some (1, true) }) rfl (fun K hK => ?_) AllReadyH.nil
              go_simp
              go_at_call 10
              refine (rslots_any12 h p A c _ (HS.out.below (then_w HB6.out (hH2.2.2.2.2)))).mono ?_
              rintro e u3 ⟨S8, d8, rfl, hin, -, hb⟩
              rw [HPS3.out] at hin ⊢
              obtain ⟨bu, ou, rfl, hbu, hcu⟩ := hin (by simp)
              have y2 := hcu 2 p2 rfl
              replace z2 := cell_later hb z2
              clear hin hbu hcu
              refine hK.out _ _ ?_ (fun hH3 => ?_)
              · exact ⟨cell_later hb hH2.1, cell_later hb hH2.2.1, cell_later hb hH2.2.2.1, cell_later hb hH2.2.2.2.1, then_w hH2.2.2.2.2 hb⟩
              clear hK K
              try simp only [Act.put, List.setIfInBounds_toArray, List.set_cons_zero, List.set_cons_succ]
              clear hb
              refine wpAnyH_take (i := 13) (oi := { dst := some 76, op := Go.Op.indexAddr 27 (Go.Operand.tmp 75) (Go.Operand.const (Go.Value.int Go.IntKind.i64 2)), type := 0, pos := "law.go:140", after := #[{ on := 12, ground := Go.Ground.data }, { on := 1, ground := Go.Ground.guard }], guard := some (1, true) }) (v := ?vv50) rfl (by kernel_rfl) (by kernel_rfl) (by kernel_rfl) (fun _ _ _ h => h) (Or.inl ⟨by rfl, ?hy50⟩) (by assumption) ?rr50
              case hy50 => intro w hSw; (try dsimp only at hSw); go_simp; all_goals with_reducible rfl
              try simp only [Act.put, List.setIfInBounds_toArray, List.set_cons_zero, List.set_cons_succ]
              refine wpAnyH_ready (rs := [14]) (by kernel_rfl) (by simp) ?_
              refine AllReadyH.cons (i := 14) (o := { dst := some 77, op := Go.Op.load 3 (Go.Operand.tmp 76), type := 3, pos := "law.go:140", after := #[{ on := 13, ground := Go.Ground.data }, { on := 1, ground := Go.Ground.guard }], guard := some (1, true) }) rfl (fun K hK => ?_) AllReadyH.nil
              go_simp
              refine hK.out _ _ ?_ (fun hH4 => ?_)
              · exact hH3
              clear hK K
              try simp only [Act.put, List.setIfInBounds_toArray, List.set_cons_zero, List.set_cons_succ]
              refine wpAnyH_take (i := 15) (oi := { dst := some 78, op := Go.Op.binOp Go.BinOp.geq 3 (Go.Operand.tmp 72) (Go.Operand.tmp 77) 3, type := 4, pos := "law.go:140", after := #[{ on := 9, ground := Go.Ground.data }, { on := 14, ground := Go.Ground.data }, { on := 1, ground := Go.Ground.guard }], guard := some (1, true) }) (v := ?vv51) rfl (by kernel_rfl) (by kernel_rfl) (by kernel_rfl) (fun _ _ _ h => h) (Or.inl ⟨by rfl, ?hy51⟩) (by assumption) ?rr51
              case hy51 => intro w hSw; (try dsimp only at hSw); go_simp; all_goals with_reducible rfl
              try simp only [Act.put, List.setIfInBounds_toArray, List.set_cons_zero, List.set_cons_succ]
              refine wpAnyH_take (i := 16) (oi := { dst := some 79, op := Go.Op.pick (Go.Operand.tmp 64) (Go.Operand.tmp 78) (Go.Operand.const (Go.Value.bool false)), type := 4, pos := "law.go:140", after := #[{ on := 1, ground := Go.Ground.data }, { on := 15, ground := Go.Ground.data }], guard := none }) (v := ?vv52) rfl (by kernel_rfl) (by kernel_rfl) (by kernel_rfl) (fun _ _ _ h => h) (Or.inl ⟨by rfl, ?hy52⟩) (by assumption) ?rr52
              case hy52 => intro w hSw; (try dsimp only at hSw); go_simp; all_goals with_reducible rfl
              try simp only [Act.put, List.setIfInBounds_toArray, List.set_cons_zero, List.set_cons_succ]
              refine wpAnyH_take (i := 17) (oi := { dst := some 9, op := Go.Op.assign (Go.Operand.tmp 79), type := 4, pos := "law.go:140", after := #[{ on := 16, ground := Go.Ground.data }, { on := 12, ground := Go.Ground.chain }, { on := 0, ground := Go.Ground.phase }, { on := 1, ground := Go.Ground.phase }, { on := 2, ground := Go.Ground.phase }, { on := 3, ground := Go.Ground.phase }, { on := 4, ground := Go.Ground.phase }, { on := 5, ground := Go.Ground.phase }, { on := 6, ground := Go.Ground.phase }, { on := 7, ground := Go.Ground.phase }, { on := 8, ground := Go.Ground.phase }, { on := 9, ground := Go.Ground.phase }, { on := 10, ground := Go.Ground.phase }, { on := 11, ground := Go.Ground.phase }, { on := 12, ground := Go.Ground.phase }, { on := 13, ground := Go.Ground.phase }, { on := 14, ground := Go.Ground.phase }, { on := 15, ground := Go.Ground.phase }, { on := 16, ground := Go.Ground.phase }], guard := none }) (v := ?vv53) rfl (by kernel_rfl) (by kernel_rfl) (by kernel_rfl) (fun _ _ _ h => h) (Or.inl ⟨by rfl, ?hy53⟩) (by assumption) ?rr53
              case hy53 => intro w hSw; (try dsimp only at hSw); go_simp; all_goals with_reducible rfl
              try simp only [Act.put, List.setIfInBounds_toArray, List.set_cons_zero, List.set_cons_succ]
              refine wpAnyH_done (by kernel_rfl) ?_ _
              have BB := hH4.2.2.2.2
              have HJB := hid BB
              clear BB
              go_wp2_with fail
              go_roundw
              case rel => exact ⟨k + 1, by omega, by rw [HST.out, HQ2.out, ← HP2.out]; simp [hge], by go_num, then_w HJ6.out HJB.out, then_w HB6.out HJB.out, HX6.out.later HJB.out⟩
              case measure => simp [intOf]; omega
            · go_simp
              go_at_call 10
              refine (rslots_any12 h p A c _ (HS.out.below (then_w HB6.out (hH1.2.2.2.2)))).mono ?_
              rintro e u2 ⟨S8, d8, rfl, hin, -, hb⟩
              rw [HPS3.out] at hin ⊢
              obtain ⟨bu, ou, rfl, hbu, hcu⟩ := hin (by simp)
              have y2 := hcu 2 p2 rfl
              replace z2 := cell_later hb z2
              clear hin hbu hcu
              refine hK.out _ _ ?_ (fun hH2 => ?_)
              · exact ⟨cell_later hb hH1.1, cell_later hb hH1.2.1, cell_later hb hH1.2.2.1, cell_later hb hH1.2.2.2.1, then_w hH1.2.2.2.2 hb⟩
              clear hK K
              try simp only [Act.put, List.setIfInBounds_toArray, List.set_cons_zero, List.set_cons_succ]
              clear hb
              refine wpAnyH_take (i := 13) (oi := { dst := some 76, op := Go.Op.indexAddr 27 (Go.Operand.tmp 75) (Go.Operand.const (Go.Value.int Go.IntKind.i64 2)), type := 0, pos := "law.go:140", after := #[{ on := 12, ground := Go.Ground.data }, { on := 1, ground := Go.Ground.guard }], guard := some (1, true) }) (v := ?vv54) rfl (by kernel_rfl) (by kernel_rfl) (by kernel_rfl) (fun _ _ _ h => h) (Or.inl ⟨by rfl, ?hy54⟩) (by assumption) ?rr54
              case hy54 => intro w hSw; (try dsimp only at hSw); go_simp; all_goals with_reducible rfl
              try simp only [Act.put, List.setIfInBounds_toArray, List.set_cons_zero, List.set_cons_succ]
              refine wpAnyH_ready (rs := [9, 14]) (by kernel_rfl) (by simp) ?_
              refine AllReadyH.cons (i := 9) (o := { dst := some 72, op := Go.Op.load 3 (Go.Operand.tmp 71), type := 3, pos := "law.go:140", after := #[{ on := 8, ground := Go.Ground.data }, { on := 1, ground := Go.Ground.guard }], guard := some (1, true) }) rfl (fun K hK => ?_) (AllReadyH.cons (i := 14) (o := { dst := some 77, op := Go.Op.load 3 (Go.Operand.tmp 76), type := 3, pos := "law.go:140", after := #[{ on := 13, ground := Go.Ground.data }, { on := 1, ground := Go.Ground.guard }], guard := some (1, true) }) rfl (fun K hK => ?_) AllReadyH.nil)
              · go_simp
                refine hK.out _ _ ?_ (fun hH3 => ?_)
                · exact hH2
                clear hK K
                try simp only [Act.put, List.setIfInBounds_toArray, List.set_cons_zero, List.set_cons_succ]
                refine wpAnyH_ready (rs := [14]) (by kernel_rfl) (by simp) ?_
                refine AllReadyH.cons (i := 14) (o := { dst := some 77, op := Go.Op.load 3 (Go.Operand.tmp 76), type := 3, pos := "law.go:140", after := #[{ on := 13, ground := Go.Ground.data }, { on := 1, ground := Go.Ground.guard }], guard := some (1, true) }) rfl (fun K hK => ?_) AllReadyH.nil
                go_simp
                refine hK.out _ _ ?_ (fun hH4 => ?_)
                · exact hH3
                clear hK K
                try simp only [Act.put, List.setIfInBounds_toArray, List.set_cons_zero, List.set_cons_succ]
                refine wpAnyH_take (i := 15) (oi := { dst := some 78, op := Go.Op.binOp Go.BinOp.geq 3 (Go.Operand.tmp 72) (Go.Operand.tmp 77) 3, type := 4, pos := "law.go:140", after := #[{ on := 9, ground := Go.Ground.data }, { on := 14, ground := Go.Ground.data }, { on := 1, ground := Go.Ground.guard }], guard := some (1, true) }) (v := ?vv55) rfl (by kernel_rfl) (by kernel_rfl) (by kernel_rfl) (fun _ _ _ h => h) (Or.inl ⟨by rfl, ?hy55⟩) (by assumption) ?rr55
                case hy55 => intro w hSw; (try dsimp only at hSw); go_simp; all_goals with_reducible rfl
                try simp only [Act.put, List.setIfInBounds_toArray, List.set_cons_zero, List.set_cons_succ]
                refine wpAnyH_take (i := 16) (oi := { dst := some 79, op := Go.Op.pick (Go.Operand.tmp 64) (Go.Operand.tmp 78) (Go.Operand.const (Go.Value.bool false)), type := 4, pos := "law.go:140", after := #[{ on := 1, ground := Go.Ground.data }, { on := 15, ground := Go.Ground.data }], guard := none }) (v := ?vv56) rfl (by kernel_rfl) (by kernel_rfl) (by kernel_rfl) (fun _ _ _ h => h) (Or.inl ⟨by rfl, ?hy56⟩) (by assumption) ?rr56
                case hy56 => intro w hSw; (try dsimp only at hSw); go_simp; all_goals with_reducible rfl
                try simp only [Act.put, List.setIfInBounds_toArray, List.set_cons_zero, List.set_cons_succ]
                refine wpAnyH_take (i := 17) (oi := { dst := some 9, op := Go.Op.assign (Go.Operand.tmp 79), type := 4, pos := "law.go:140", after := #[{ on := 16, ground := Go.Ground.data }, { on := 12, ground := Go.Ground.chain }, { on := 0, ground := Go.Ground.phase }, { on := 1, ground := Go.Ground.phase }, { on := 2, ground := Go.Ground.phase }, { on := 3, ground := Go.Ground.phase }, { on := 4, ground := Go.Ground.phase }, { on := 5, ground := Go.Ground.phase }, { on := 6, ground := Go.Ground.phase }, { on := 7, ground := Go.Ground.phase }, { on := 8, ground := Go.Ground.phase }, { on := 9, ground := Go.Ground.phase }, { on := 10, ground := Go.Ground.phase }, { on := 11, ground := Go.Ground.phase }, { on := 12, ground := Go.Ground.phase }, { on := 13, ground := Go.Ground.phase }, { on := 14, ground := Go.Ground.phase }, { on := 15, ground := Go.Ground.phase }, { on := 16, ground := Go.Ground.phase }], guard := none }) (v := ?vv57) rfl (by kernel_rfl) (by kernel_rfl) (by kernel_rfl) (fun _ _ _ h => h) (Or.inl ⟨by rfl, ?hy57⟩) (by assumption) ?rr57
                case hy57 => intro w hSw; (try dsimp only at hSw); go_simp; all_goals with_reducible rfl
                try simp only [Act.put, List.setIfInBounds_toArray, List.set_cons_zero, List.set_cons_succ]
                refine wpAnyH_done (by kernel_rfl) ?_ _
                have BB := hH4.2.2.2.2
                have HJB := hid BB
                clear BB
                go_wp2_with fail
                go_roundw
                case rel => exact ⟨k + 1, by omega, by rw [HST.out, HQ2.out, ← HP2.out]; simp [hge], by go_num, then_w HJ6.out HJB.out, then_w HB6.out HJB.out, HX6.out.later HJB.out⟩
                case measure => simp [intOf]; omega
              · go_simp
                refine hK.out _ _ ?_ (fun hH3 => ?_)
                · exact hH2
                clear hK K
                try simp only [Act.put, List.setIfInBounds_toArray, List.set_cons_zero, List.set_cons_succ]
                refine wpAnyH_ready (rs := [9]) (by kernel_rfl) (by simp) ?_
                refine AllReadyH.cons (i := 9) (o := { dst := some 72, op := Go.Op.load 3 (Go.Operand.tmp 71), type := 3, pos := "law.go:140", after := #[{ on := 8, ground := Go.Ground.data }, { on := 1, ground := Go.Ground.guard }], guard := some (1, true) }) rfl (fun K hK => ?_) AllReadyH.nil
                go_simp
                refine hK.out _ _ ?_ (fun hH4 => ?_)
                · exact hH3
                clear hK K
                try simp only [Act.put, List.setIfInBounds_toArray, List.set_cons_zero, List.set_cons_succ]
                refine wpAnyH_take (i := 15) (oi := { dst := some 78, op := Go.Op.binOp Go.BinOp.geq 3 (Go.Operand.tmp 72) (Go.Operand.tmp 77) 3, type := 4, pos := "law.go:140", after := #[{ on := 9, ground := Go.Ground.data }, { on := 14, ground := Go.Ground.data }, { on := 1, ground := Go.Ground.guard }], guard := some (1, true) }) (v := ?vv58) rfl (by kernel_rfl) (by kernel_rfl) (by kernel_rfl) (fun _ _ _ h => h) (Or.inl ⟨by rfl, ?hy58⟩) (by assumption) ?rr58
                case hy58 => intro w hSw; (try dsimp only at hSw); go_simp; all_goals with_reducible rfl
                try simp only [Act.put, List.setIfInBounds_toArray, List.set_cons_zero, List.set_cons_succ]
                refine wpAnyH_take (i := 16) (oi := { dst := some 79, op := Go.Op.pick (Go.Operand.tmp 64) (Go.Operand.tmp 78) (Go.Operand.const (Go.Value.bool false)), type := 4, pos := "law.go:140", after := #[{ on := 1, ground := Go.Ground.data }, { on := 15, ground := Go.Ground.data }], guard := none }) (v := ?vv59) rfl (by kernel_rfl) (by kernel_rfl) (by kernel_rfl) (fun _ _ _ h => h) (Or.inl ⟨by rfl, ?hy59⟩) (by assumption) ?rr59
                case hy59 => intro w hSw; (try dsimp only at hSw); go_simp; all_goals with_reducible rfl
                try simp only [Act.put, List.setIfInBounds_toArray, List.set_cons_zero, List.set_cons_succ]
                refine wpAnyH_take (i := 17) (oi := { dst := some 9, op := Go.Op.assign (Go.Operand.tmp 79), type := 4, pos := "law.go:140", after := #[{ on := 16, ground := Go.Ground.data }, { on := 12, ground := Go.Ground.chain }, { on := 0, ground := Go.Ground.phase }, { on := 1, ground := Go.Ground.phase }, { on := 2, ground := Go.Ground.phase }, { on := 3, ground := Go.Ground.phase }, { on := 4, ground := Go.Ground.phase }, { on := 5, ground := Go.Ground.phase }, { on := 6, ground := Go.Ground.phase }, { on := 7, ground := Go.Ground.phase }, { on := 8, ground := Go.Ground.phase }, { on := 9, ground := Go.Ground.phase }, { on := 10, ground := Go.Ground.phase }, { on := 11, ground := Go.Ground.phase }, { on := 12, ground := Go.Ground.phase }, { on := 13, ground := Go.Ground.phase }, { on := 14, ground := Go.Ground.phase }, { on := 15, ground := Go.Ground.phase }, { on := 16, ground := Go.Ground.phase }], guard := none }) (v := ?vv60) rfl (by kernel_rfl) (by kernel_rfl) (by kernel_rfl) (fun _ _ _ h => h) (Or.inl ⟨by rfl, ?hy60⟩) (by assumption) ?rr60
                case hy60 => intro w hSw; (try dsimp only at hSw); go_simp; all_goals with_reducible rfl
                try simp only [Act.put, List.setIfInBounds_toArray, List.set_cons_zero, List.set_cons_succ]
                refine wpAnyH_done (by kernel_rfl) ?_ _
                have BB := hH4.2.2.2.2
                have HJB := hid BB
                clear BB
                go_wp2_with fail
                go_roundw
                case rel => exact ⟨k + 1, by omega, by rw [HST.out, HQ2.out, ← HP2.out]; simp [hge], by go_num, then_w HJ6.out HJB.out, then_w HB6.out HJB.out, HX6.out.later HJB.out⟩
                case measure => simp [intOf]; omega
      · obtain rfl : k = l.length := by omega
        rw [List.take_length]
        obtain ⟨lb, hlb⟩ : ∃ b, b = le14 h p l := ⟨_, rfl⟩
        rw [← hlb]
        have HLB := hid hlb
        clear hlb hlt hk
        obtain ⟨x0, x1, x2⟩ := HX6.out.c3
        go_wp2_with fail
        refine (pinsert_any14 h f p A c w6 (HS.out.below HB6.out) HF.out).mono ?_
        rintro e w7 ⟨A1, c1, l1, rfl, hm, ho, hb⟩
        obtain ⟨r1, hr1⟩ : ∃ r, r = is14 h f p := ⟨_, rfl⟩
        rw [← hr1] at hm ⊢
        have HR1 := hid hr1
        clear hr1
        have HB7 := hid (then_w HB6.out hb)
        have HX7 := hid (HX6.out.later hb)
        have HO1 := hid (own_obs ho hm)
        clear hm ho hb x0 x1 x2 HB6 HX6 
        go_upto_region 12 with fail
        obtain ⟨w8, hw⟩ : ∃ x, x = w7.alloc (.cells #[Value.slice A1 r1.1.objs.length c1, Value.int .i64 r1.1.cap, Value.int .i64 r1.1.last] 24) := ⟨_, rfl⟩
        obtain ⟨b1, hbx⟩ : ∃ x, x = w7.heap.size := ⟨_, rfl⟩
        have Y1_8 : Hid (Lies w8 b1 24 #[Value.slice A1 r1.1.objs.length c1, Value.int .i64 r1.1.cap, Value.int .i64 r1.1.last]) := by show Lies _ _ _ _; rw [hw, hbx]; exact Lies.new _ _ _
        have hb : Below w7.heap.size w7 w8 := by rw [hw]; exact below_alloc _ _
        have HB8 := hid (then_w HB7.out hb)
        have HX8 := hid (HX7.out.later hb)
        have O1_8 := hid (HO1.out.below hb)
        rw [← hw, ← hbx]
        clear hw hbx hb HO1 HB7 HX7 
        obtain ⟨x0, x1, x2⟩ := HX8.out.c3
        go_wp2_with fail
        refine (pappend_any14 h f p A c w8 (HS.out.below HB8.out) HF.out).mono ?_
        rintro e w9 ⟨A2, c2, l2, rfl, hm, ho, hb⟩
        obtain ⟨r2, hr2⟩ : ∃ r, r = ap14 h f p := ⟨_, rfl⟩
        rw [← hr2] at hm ⊢
        have HR2 := hid hr2
        clear hr2
        have HB9 := hid (then_w HB8.out hb)
        have HX9 := hid (HX8.out.later hb)
        have HO2 := hid (own_obs ho hm)
        have Y1_9 := hid (Y1_8.out.later hb)
        have O1_9 := hid (O1_8.out.below hb)
        clear hm ho hb x0 x1 x2 HB8 HX8 Y1_8 O1_8
        go_upto_region 13 with fail
        obtain ⟨w10, hw⟩ : ∃ x, x = w9.alloc (.cells #[Value.slice A2 r2.1.objs.length c2, Value.int .i64 r2.1.cap, Value.int .i64 r2.1.last] 24) := ⟨_, rfl⟩
        obtain ⟨b2, hbx⟩ : ∃ x, x = w9.heap.size := ⟨_, rfl⟩
        have Y2_10 : Hid (Lies w10 b2 24 #[Value.slice A2 r2.1.objs.length c2, Value.int .i64 r2.1.cap, Value.int .i64 r2.1.last]) := by show Lies _ _ _ _; rw [hw, hbx]; exact Lies.new _ _ _
        have hb : Below w9.heap.size w9 w10 := by rw [hw]; exact below_alloc _ _
        have HB10 := hid (then_w HB9.out hb)
        have HX10 := hid (HX9.out.later hb)
        have O2_10 := hid (HO2.out.below hb)
        have Y1_10 := hid (Y1_9.out.later hb)
        have O1_10 := hid (O1_9.out.below hb)
        rw [← hw, ← hbx]
        clear hw hbx hb HO2 HB9 HX9 Y1_9 O1_9
        have HE : Hid (r2.2.2 = r1.2.2) := by show _ = _; rw [HR1.out, HR2.out]; exact (err_is14 HM.out HLS.out).symm
        rw [HE.out]
        have hee : (r1.2.2 != r1.2.2) = false := by simp
        have HMR : Hid (mayB r1.1 = true) := by show _ = _; rw [HR1.out]; exact jo_may14 HM.out f p _
        cases lb
        · by_cases hn : l = []
          · have HT0 : Hid (tk14 h f = (h, 0, 0, 141)) := by show _ = _; exact tk_nil14 HM.out (by rw [← hn]; exact HLS.out)
            have HD0 : Hid (dr14 h f f = (h, 0, 140)) := by show _ = _; exact dr_not14 HM.out HLS.out (by rw [hn]; simp)
            have hl0 : ((l.length : Int) == 0) = true := by rw [hn]; rfl
            clear hn
            obtain ⟨x0, x1, x2⟩ := HX10.out.c3
            go_wp2_with fail
            refine (ptake_any14 h f A c w10 (HS.out.below HB10.out) HF.out).mono ?_
            rintro e w11 ⟨A3, c3, l3, rfl, hm, ho, hb⟩
            rw [HT0.out] at hm ⊢
            have HB11 := hid (then_w HB10.out hb)
            have HX11 := hid (HX10.out.later hb)
            have HO3 := hid (own_obs ho hm)
            clear hm ho hb x0 x1 x2 HB10 HX10 
            go_upto_region 16 with fail
            obtain ⟨w12, hw⟩ : ∃ x, x = w11.alloc (.cells #[Value.slice A3 h.objs.length c3, Value.int .i64 h.cap, Value.int .i64 h.last] 24) := ⟨_, rfl⟩
            obtain ⟨b3, hbx⟩ : ∃ x, x = w11.heap.size := ⟨_, rfl⟩
            have Y3_12 : Hid (Lies w12 b3 24 #[Value.slice A3 h.objs.length c3, Value.int .i64 h.cap, Value.int .i64 h.last]) := by show Lies _ _ _ _; rw [hw, hbx]; exact Lies.new _ _ _
            have hb : Below w11.heap.size w11 w12 := by rw [hw]; exact below_alloc _ _
            have HB12 := hid (then_w HB11.out hb)
            have HX12 := hid (HX11.out.later hb)
            have O3_12 := hid (HO3.out.below hb)
            rw [← hw, ← hbx]
            clear hw hbx hb HO3 HB11 HX11 
            obtain ⟨x0, x1, x2⟩ := HX12.out.c3
            go_wp2_with fail
            refine (pdrop_any14 h f f A c w12 (HS.out.below HB12.out) HF.out).mono ?_
            rintro e w13 ⟨A4, c4, l4, rfl, hm, ho, hb⟩
            rw [HD0.out] at hm ⊢
            have HB13 := hid (then_w HB12.out hb)
            have HX13 := hid (HX12.out.later hb)
            have HO4 := hid (own_obs ho hm)
            have Y3_13 := hid (Y3_12.out.later hb)
            have O3_13 := hid (O3_12.out.below hb)
            clear hm ho hb x0 x1 x2 HB12 HX12 Y3_12 O3_12
            go_upto_region 17 with fail
            obtain ⟨w14, hw⟩ : ∃ x, x = w13.alloc (.cells #[Value.slice A4 h.objs.length c4, Value.int .i64 h.cap, Value.int .i64 h.last] 24) := ⟨_, rfl⟩
            obtain ⟨b4, hbx⟩ : ∃ x, x = w13.heap.size := ⟨_, rfl⟩
            have Y4_14 : Hid (Lies w14 b4 24 #[Value.slice A4 h.objs.length c4, Value.int .i64 h.cap, Value.int .i64 h.last]) := by show Lies _ _ _ _; rw [hw, hbx]; exact Lies.new _ _ _
            have hb : Below w13.heap.size w13 w14 := by rw [hw]; exact below_alloc _ _
            have HB14 := hid (then_w HB13.out hb)
            have HX14 := hid (HX13.out.later hb)
            have O4_14 := hid (HO4.out.below hb)
            have Y3_14 := hid (Y3_13.out.later hb)
            have O3_14 := hid (O3_13.out.below hb)
            rw [← hw, ← hbx]
            clear hw hbx hb HO4 HB13 HX13 Y3_13 O3_13
            go_wp2_with fail
            go_ret
            exact ⟨rfl, HB14.out⟩
          · obtain ⟨ht, hd, hmg⟩ := head_td14 HM.out HLS.out hn
            obtain ⟨G, hG⟩ : ∃ G, G = (wo14 h l 0).1 := ⟨_, rfl⟩
            obtain ⟨N, hN⟩ : ∃ N, N = (wo14 h l 0).2 := ⟨_, rfl⟩
            rw [← hG, ← hN] at ht hd
            rw [← hG] at hmg
            have HT0 := hid ht
            have HD0 := hid hd
            have HMG := hid hmg
            have hl0 : ((l.length : Int) == 0) = false := by
              have := List.length_pos_iff.2 hn
              simp
              omega
            have hff : (f == f) = true := beq_self_eq_true f
            have hNN : (N == N) = true := beq_self_eq_true N
            clear hn ht hd hmg hG hN
            obtain ⟨x0, x1, x2⟩ := HX10.out.c3
            go_wp2_with fail
            refine (ptake_any14 h f A c w10 (HS.out.below HB10.out) HF.out).mono ?_
            rintro e w11 ⟨A3, c3, l3, rfl, hm, ho, hb⟩
            rw [HT0.out] at hm ⊢
            have HB11 := hid (then_w HB10.out hb)
            have HX11 := hid (HX10.out.later hb)
            have HO3 := hid (own_obs ho hm)
            clear hm ho hb x0 x1 x2 HB10 HX10 
            go_upto_region 16 with fail
            obtain ⟨w12, hw⟩ : ∃ x, x = w11.alloc (.cells #[Value.slice A3 G.objs.length c3, Value.int .i64 G.cap, Value.int .i64 G.last] 24) := ⟨_, rfl⟩
            obtain ⟨b3, hbx⟩ : ∃ x, x = w11.heap.size := ⟨_, rfl⟩
            have Y3_12 : Hid (Lies w12 b3 24 #[Value.slice A3 G.objs.length c3, Value.int .i64 G.cap, Value.int .i64 G.last]) := by show Lies _ _ _ _; rw [hw, hbx]; exact Lies.new _ _ _
            have hb : Below w11.heap.size w11 w12 := by rw [hw]; exact below_alloc _ _
            have HB12 := hid (then_w HB11.out hb)
            have HX12 := hid (HX11.out.later hb)
            have O3_12 := hid (HO3.out.below hb)
            rw [← hw, ← hbx]
            clear hw hbx hb HO3 HB11 HX11 
            obtain ⟨x0, x1, x2⟩ := HX12.out.c3
            go_wp2_with fail
            refine (pdrop_any14 h f f A c w12 (HS.out.below HB12.out) HF.out).mono ?_
            rintro e w13 ⟨A4, c4, l4, rfl, hm, ho, hb⟩
            rw [HD0.out] at hm ⊢
            have HB13 := hid (then_w HB12.out hb)
            have HX13 := hid (HX12.out.later hb)
            have HO4 := hid (own_obs ho hm)
            have Y3_13 := hid (Y3_12.out.later hb)
            have O3_13 := hid (O3_12.out.below hb)
            clear hm ho hb x0 x1 x2 HB12 HX12 Y3_12 O3_12
            go_upto_region 17 with fail
            obtain ⟨w14, hw⟩ : ∃ x, x = w13.alloc (.cells #[Value.slice A4 G.objs.length c4, Value.int .i64 G.cap, Value.int .i64 G.last] 24) := ⟨_, rfl⟩
            obtain ⟨b4, hbx⟩ : ∃ x, x = w13.heap.size := ⟨_, rfl⟩
            have Y4_14 : Hid (Lies w14 b4 24 #[Value.slice A4 G.objs.length c4, Value.int .i64 G.cap, Value.int .i64 G.last]) := by show Lies _ _ _ _; rw [hw, hbx]; exact Lies.new _ _ _
            have hb : Below w13.heap.size w13 w14 := by rw [hw]; exact below_alloc _ _
            have HB14 := hid (then_w HB13.out hb)
            have HX14 := hid (HX13.out.later hb)
            have O4_14 := hid (HO4.out.below hb)
            have Y3_14 := hid (Y3_13.out.later hb)
            have O3_14 := hid (O3_13.out.below hb)
            rw [← hw, ← hbx]
            clear hw hbx hb HO4 HB13 HX13 Y3_13 O3_13
            obtain ⟨y0, y1, y2⟩ := Y3_14.out.c3
            obtain ⟨z0, z1, z2⟩ := Y4_14.out.c3
            go_wp2_with fail
            refine (same_any G A3 A4 c3 c4 w14 O3_14.out O4_14.out (may_fit HMG.out)).mono ?_
            rintro e wz ⟨rfl, hb⟩
            have HBZ := hid (then_w HB14.out hb)
            clear hb y0 y1 y2 z0 z1 z2
            go_wp2_with fail
            go_ret
            exact ⟨rfl, HBZ.out⟩
        · have HRE : Hid (r2 = r1) := by show _ = _; rw [HR1.out, HR2.out]; exact (le_is14 HM.out HLS.out HPP.out HLB.out.symm).symm
          have HY2 : Hid (Lies w10 b2 24 #[Value.slice A2 r1.1.objs.length c2, Value.int .i64 r1.1.cap, Value.int .i64 r1.1.last]) := by show Lies _ _ _ _; rw [← HRE.out]; exact Y2_10.out
          have HO2 : Hid (ObsR w10 A2 r1.1.objs) := by show ObsR _ _ _; rw [← HRE.out]; exact O2_10.out
          rw [HRE.out]
          have hnn : (r1.2.1 != r1.2.1) = false := by simp
          obtain ⟨y0, y1, y2⟩ := Y1_10.out.c3
          obtain ⟨z0, z1, z2⟩ := HY2.out.c3
          go_wp2_with fail
          refine (same_any r1.1 A1 A2 c1 c2 w10 O1_10.out HO2.out (may_fit HMR.out)).mono ?_
          rintro e w11 ⟨rfl, hb⟩
          have HB11 := hid (then_w HB10.out hb)
          have HX11 := hid (HX10.out.later hb)
          clear hb y0 y1 y2 z0 z1 z2 HB10 HX10 HY2 HO2 Y1_10 Y2_10 O1_10 O2_10
          go_upto_region 15 with fail
          by_cases hn : l = []
          · have HT0 : Hid (tk14 h f = (h, 0, 0, 141)) := by show _ = _; exact tk_nil14 HM.out (by rw [← hn]; exact HLS.out)
            have HD0 : Hid (dr14 h f f = (h, 0, 140)) := by show _ = _; exact dr_not14 HM.out HLS.out (by rw [hn]; simp)
            have hl0 : ((l.length : Int) == 0) = true := by rw [hn]; rfl
            clear hn
            obtain ⟨x0, x1, x2⟩ := HX11.out.c3
            go_wp2_with fail
            refine (ptake_any14 h f A c w11 (HS.out.below HB11.out) HF.out).mono ?_
            rintro e w12 ⟨A3, c3, l3, rfl, hm, ho, hb⟩
            rw [HT0.out] at hm ⊢
            have HB12 := hid (then_w HB11.out hb)
            have HX12 := hid (HX11.out.later hb)
            have HO3 := hid (own_obs ho hm)
            clear hm ho hb x0 x1 x2 HB11 HX11 
            go_upto_region 16 with fail
            obtain ⟨w13, hw⟩ : ∃ x, x = w12.alloc (.cells #[Value.slice A3 h.objs.length c3, Value.int .i64 h.cap, Value.int .i64 h.last] 24) := ⟨_, rfl⟩
            obtain ⟨b3, hbx⟩ : ∃ x, x = w12.heap.size := ⟨_, rfl⟩
            have Y3_13 : Hid (Lies w13 b3 24 #[Value.slice A3 h.objs.length c3, Value.int .i64 h.cap, Value.int .i64 h.last]) := by show Lies _ _ _ _; rw [hw, hbx]; exact Lies.new _ _ _
            have hb : Below w12.heap.size w12 w13 := by rw [hw]; exact below_alloc _ _
            have HB13 := hid (then_w HB12.out hb)
            have HX13 := hid (HX12.out.later hb)
            have O3_13 := hid (HO3.out.below hb)
            rw [← hw, ← hbx]
            clear hw hbx hb HO3 HB12 HX12 
            obtain ⟨x0, x1, x2⟩ := HX13.out.c3
            go_wp2_with fail
            refine (pdrop_any14 h f f A c w13 (HS.out.below HB13.out) HF.out).mono ?_
            rintro e w14 ⟨A4, c4, l4, rfl, hm, ho, hb⟩
            rw [HD0.out] at hm ⊢
            have HB14 := hid (then_w HB13.out hb)
            have HX14 := hid (HX13.out.later hb)
            have HO4 := hid (own_obs ho hm)
            have Y3_14 := hid (Y3_13.out.later hb)
            have O3_14 := hid (O3_13.out.below hb)
            clear hm ho hb x0 x1 x2 HB13 HX13 Y3_13 O3_13
            go_upto_region 17 with fail
            obtain ⟨w15, hw⟩ : ∃ x, x = w14.alloc (.cells #[Value.slice A4 h.objs.length c4, Value.int .i64 h.cap, Value.int .i64 h.last] 24) := ⟨_, rfl⟩
            obtain ⟨b4, hbx⟩ : ∃ x, x = w14.heap.size := ⟨_, rfl⟩
            have Y4_15 : Hid (Lies w15 b4 24 #[Value.slice A4 h.objs.length c4, Value.int .i64 h.cap, Value.int .i64 h.last]) := by show Lies _ _ _ _; rw [hw, hbx]; exact Lies.new _ _ _
            have hb : Below w14.heap.size w14 w15 := by rw [hw]; exact below_alloc _ _
            have HB15 := hid (then_w HB14.out hb)
            have HX15 := hid (HX14.out.later hb)
            have O4_15 := hid (HO4.out.below hb)
            have Y3_15 := hid (Y3_14.out.later hb)
            have O3_15 := hid (O3_14.out.below hb)
            rw [← hw, ← hbx]
            clear hw hbx hb HO4 HB14 HX14 Y3_14 O3_14
            go_wp2_with fail
            go_ret
            exact ⟨rfl, HB15.out⟩
          · obtain ⟨ht, hd, hmg⟩ := head_td14 HM.out HLS.out hn
            obtain ⟨G, hG⟩ : ∃ G, G = (wo14 h l 0).1 := ⟨_, rfl⟩
            obtain ⟨N, hN⟩ : ∃ N, N = (wo14 h l 0).2 := ⟨_, rfl⟩
            rw [← hG, ← hN] at ht hd
            rw [← hG] at hmg
            have HT0 := hid ht
            have HD0 := hid hd
            have HMG := hid hmg
            have hl0 : ((l.length : Int) == 0) = false := by
              have := List.length_pos_iff.2 hn
              simp
              omega
            have hff : (f == f) = true := beq_self_eq_true f
            have hNN : (N == N) = true := beq_self_eq_true N
            clear hn ht hd hmg hG hN
            obtain ⟨x0, x1, x2⟩ := HX11.out.c3
            go_wp2_with fail
            refine (ptake_any14 h f A c w11 (HS.out.below HB11.out) HF.out).mono ?_
            rintro e w12 ⟨A3, c3, l3, rfl, hm, ho, hb⟩
            rw [HT0.out] at hm ⊢
            have HB12 := hid (then_w HB11.out hb)
            have HX12 := hid (HX11.out.later hb)
            have HO3 := hid (own_obs ho hm)
            clear hm ho hb x0 x1 x2 HB11 HX11 
            go_upto_region 16 with fail
            obtain ⟨w13, hw⟩ : ∃ x, x = w12.alloc (.cells #[Value.slice A3 G.objs.length c3, Value.int .i64 G.cap, Value.int .i64 G.last] 24) := ⟨_, rfl⟩
            obtain ⟨b3, hbx⟩ : ∃ x, x = w12.heap.size := ⟨_, rfl⟩
            have Y3_13 : Hid (Lies w13 b3 24 #[Value.slice A3 G.objs.length c3, Value.int .i64 G.cap, Value.int .i64 G.last]) := by show Lies _ _ _ _; rw [hw, hbx]; exact Lies.new _ _ _
            have hb : Below w12.heap.size w12 w13 := by rw [hw]; exact below_alloc _ _
            have HB13 := hid (then_w HB12.out hb)
            have HX13 := hid (HX12.out.later hb)
            have O3_13 := hid (HO3.out.below hb)
            rw [← hw, ← hbx]
            clear hw hbx hb HO3 HB12 HX12 
            obtain ⟨x0, x1, x2⟩ := HX13.out.c3
            go_wp2_with fail
            refine (pdrop_any14 h f f A c w13 (HS.out.below HB13.out) HF.out).mono ?_
            rintro e w14 ⟨A4, c4, l4, rfl, hm, ho, hb⟩
            rw [HD0.out] at hm ⊢
            have HB14 := hid (then_w HB13.out hb)
            have HX14 := hid (HX13.out.later hb)
            have HO4 := hid (own_obs ho hm)
            have Y3_14 := hid (Y3_13.out.later hb)
            have O3_14 := hid (O3_13.out.below hb)
            clear hm ho hb x0 x1 x2 HB13 HX13 Y3_13 O3_13
            go_upto_region 17 with fail
            obtain ⟨w15, hw⟩ : ∃ x, x = w14.alloc (.cells #[Value.slice A4 G.objs.length c4, Value.int .i64 G.cap, Value.int .i64 G.last] 24) := ⟨_, rfl⟩
            obtain ⟨b4, hbx⟩ : ∃ x, x = w14.heap.size := ⟨_, rfl⟩
            have Y4_15 : Hid (Lies w15 b4 24 #[Value.slice A4 G.objs.length c4, Value.int .i64 G.cap, Value.int .i64 G.last]) := by show Lies _ _ _ _; rw [hw, hbx]; exact Lies.new _ _ _
            have hb : Below w14.heap.size w14 w15 := by rw [hw]; exact below_alloc _ _
            have HB15 := hid (then_w HB14.out hb)
            have HX15 := hid (HX14.out.later hb)
            have O4_15 := hid (HO4.out.below hb)
            have Y3_15 := hid (Y3_14.out.later hb)
            have O3_15 := hid (O3_14.out.below hb)
            rw [← hw, ← hbx]
            clear hw hbx hb HO4 HB14 HX14 Y3_14 O3_14
            obtain ⟨y0, y1, y2⟩ := Y3_15.out.c3
            obtain ⟨z0, z1, z2⟩ := Y4_15.out.c3
            go_wp2_with fail
            refine (same_any G A3 A4 c3 c4 w15 O3_15.out O4_15.out (may_fit HMG.out)).mono ?_
            rintro e wz ⟨rfl, hb⟩
            have HBZ := hid (then_w HB15.out hb)
            clear hb y0 y1 y2 z0 z1 z2
            go_wp2_with fail
            go_ret
            exact ⟨rfl, HBZ.out⟩
end Go.Proofs.Ytkpfmbdkfgeboaa
