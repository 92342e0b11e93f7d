/- The document's SetByte walked. -/
import Derived.Test.YtelljlmjhnjpiaaSB
import Derived.Test.YtelljlmjhnjpiaaR
import Derived.Test.YtelljlmjhnjpiaaRS
namespace Go.Proofs.Ytelljlmjhnjpiaa
open Go.RowKit
set_option maxRecDepth 100000
theorem then_s {w v w' : World} (h : Below w.heap.size w v) (hb : Below v.heap.size v w') : Below w.heap.size w w' := h.trans (hb.mono h.size)
theorem str_set (t : ByteArray) (j : Nat) (hj : j < t.size) (x : Int) : t.extract 0 j ++ ⟨#[UInt8.ofNat x.toNat]⟩ ++ t.extract (j + 1) t.size = setT t j x := by
  apply ByteArray.ext
  apply Array.toList_inj.1
  have hj2 : j < t.data.toList.length := by rw [Array.length_toList]; exact hj
  unfold setT
  simp only [ByteArray.data_append, ByteArray.data_extract, Array.toList_append, Array.toList_extract]
  rw [List.set_eq_take_append_cons_drop, if_pos hj2]
  have hs : t.size = t.data.toList.length := by rw [Array.length_toList]; rfl
  rw [hs]
  simp [List.extract, List.take_of_length_le]
theorem conv1 (W : World) (g1 : Nat) (x : Int) (h0 : 0 ≤ x) (h1 : x ≤ 255) (hc : W.cell? ⟨g1, 0, none⟩ = some (.int .u8 x)) : (convert 76 9 (.slice (some ⟨g1, 0, none⟩) 1 1)).run Try.prog W = .ok (.string ⟨#[UInt8.ofNat x.toNat]⟩) W := by
  have := run_convert_bytes_back (P := Try.prog) W 76 9 5 ⟨g1, 0, none⟩ 1 [UInt8.ofNat x.toNat] Try.underlying76 Try.underlying5 Try.underlying9 (fun j hj => by
    obtain rfl : j = 0 := by simp at hj; omega
    rw [Addr.add_lit, Nat.zero_add, hc]
    have hxx : (UInt8.ofNat x.toNat).toNat = x.toNat := by rw [UInt8.toNat_ofNat']; omega
    simp [hxx]
    omega)
  simpa using this
set_option maxHeartbeats 1500000 in
theorem rsetbyte_any (h : Hp) (v k x : Int) (A : Option Addr) (c : Nat) (w : World) (hs : ObsR w A h.objs) (fit : h.Fit) :
    Calls Try.prog 25 #[.agg #[.slice A h.objs.length c, .int .i64 h.cap, .int .i64 h.last], .int .i64 v, .int .i64 k, .int .i64 x] w (HeapTwo w (sbR h v k x) (sbE h v k x)) := by
  have HB0 := hid (below_alloc2 w (.cells #[Value.slice A h.objs.length c, Value.int .i64 h.cap, Value.int .i64 h.last] 24) (.cells #[.slice none 0 0, .int .i64 0, .int .i64 0] 24))
  have HX0 := hid ((Lies.new w 24 #[Value.slice A h.objs.length c, Value.int .i64 h.cap, Value.int .i64 h.last]).alloc (.cells #[.slice none 0 0, .int .i64 0, .int .i64 0] 24))
  have HK0 : Hid (Lies ((w.alloc (.cells #[Value.slice A h.objs.length c, Value.int .i64 h.cap, Value.int .i64 h.last] 24)).alloc (.cells #[.slice none 0 0, .int .i64 0, .int .i64 0] 24)) (w.heap.size + 1) 24 #[.slice none 0 0, .int .i64 0, .int .i64 0]) := by
    have := Lies.new (w.alloc (.cells #[Value.slice A h.objs.length c, Value.int .i64 h.cap, Value.int .i64 h.last] 24)) 24 #[.slice none 0 0, .int .i64 0, .int .i64 0]
    simpa [Hid] using this
  have HS := hid hs
  have HF := hid fit
  clear hs fit
  by_cases e0 : plE h v 1 k = 0
  · by_cases hx : 0 ≤ x ∧ x ≤ 255
    · obtain ⟨hm, hr, hk, h0, h1⟩ := pl_ok e0
      obtain ⟨i, hi, hvi, ho⟩ := obAt_get hr
      obtain ⟨j, rfl⟩ : ∃ j : Nat, k = j := ⟨k.toNat, by omega⟩
      have hjn : j < (obAt h v).text.size := by unfold szO at h1; rw [if_pos rfl] at h1; omega
      obtain ⟨-, hl2, -⟩ := kind_len (ob_kind (may_all hm _ (List.mem_of_getElem? ho)))
      have hri : refI h.objs.length v = (i : Int) := by rw [refI_nonneg hr, hvi]
      have EE : Hid (sbE h v j x = 0) := by show _ = _; unfold sbE; rw [if_pos e0, if_pos hx]
      have ER : Hid (sbR h v j x = { h with objs := h.objs.set i { obAt h v with text := setT (obAt h v).text j x } }) := by
        show _ = _
        unfold sbR; rw [if_pos EE.out]; unfold sbH; rw [hvi]; rfl
      have HO := hid ho
      have E0 := hid e0
      have HM := hid hm
      obtain ⟨hx0, hx1⟩ := hx
      obtain ⟨tt, htt⟩ : ∃ tt, tt = (obAt h v).text := ⟨_, rfl⟩
      have HTT := hid htt
      rw [← htt] at hjn hl2
      have hwx : IntKind.u8.wrap x = x := IntWalk.u8_in _ ⟨hx0, hx1⟩
      have hilen : (i : Int) < h.objs.length := by omega
      have hjt : (j : Int) < tt.size := by omega
      have hjle : j ≤ tt.size := by omega
      have hj1 : (0 : Int) ≤ (j : Int) + 1 := by omega
      have hj2 : (j : Int) + 1 ≤ (tt.size : Int) := by omega
      have hwr : IntKind.i64.wrap ((j : Int) + 1) = (j : Int) + 1 := by rw [IntKind.wrap_i64]; omega
      clear hm hr hk h0 h1 hvi ho e0 htt
      go_enter Try.func25, Try.ntmps25
      go_wp2_with fail
      refine (wrong_any h v 1 j (.inr rfl) A c _ (HS.out.below HB0.out) HF.out).mono ?_
      rintro e w1 ⟨rfl, hb⟩
      rw [E0.out]
      have HB1 := hid (HB0.out.trans (hb.mono HB0.out.size))
      have HX1 := hid (HX0.out.later hb)
      have HK1 := hid (HK0.out.later hb)
      clear hb
      have x0 := HX1.out.cell 0
      have x1 := HX1.out.cell 1
      have x2 := HX1.out.cell 2
      simp only [List.getElem?_toArray, List.getElem?_cons_zero, List.getElem?_cons_succ] at x0 x1 x2
      have hne01 : w.heap.size ≠ w.heap.size + 1 := by omega
      go_wp2_with fail
      refine (copy_h h A c _ (HS.out.below HB1.out) HM.out).mono ?_
      rintro e w3 ⟨A3, c3, ls, rfl, hls, hown, hb3⟩
      have HB3 := hid (HB1.out.trans (hb3.mono HB1.out.size))
      have HK3 := hid (HK1.out.later hb3)
      have HX3 := hid (HX1.out.later hb3)
      have hw1 : w.heap.size + 1 < w1.heap.size := HK1.out.lt
      have hw13 : w1.heap.size ≤ w3.heap.size := hb3.size
      have hin : i < ls.length := by have := congrArg List.length hls; simp at this; omega
      obtain ⟨l, hl⟩ : ∃ l, ls[i]? = some l := ⟨_, List.getElem?_eq_getElem hin⟩
      have hlo : l.o = obAt h v := by
        have e1 : (ls.map (·.o))[i]? = some l.o := by rw [List.getElem?_map, hl]; rfl
        rw [hls, HO.out] at e1
        exact (Option.some.inj e1).symm
      obtain ⟨g, cg, hvv, hg0, hg1⟩ := hown.row.form (by omega)
      simp only [Value.slice.injEq, true_and] at hvv
      obtain ⟨rfl, rfl⟩ := hvv
      have HA3 := hid (below_alloc w3 (.cells #[Value.slice (some ⟨g, 0, none⟩) h.objs.length c3, Value.int .i64 h.cap, Value.int .i64 h.last] 24))
      have HOA := hid (hown.later HA3.out)
      have q3 := (HOA.out.row.cellAt (i * 6 + 3) (by omega)).trans (rowOf_get ls i 3 _ hl (by omega))
      simp only [LO.cells, List.getElem?_cons_zero, List.getElem?_cons_succ] at q3
      rw [hlo, ← HTT.out] at q3
      have HLS := hid hls
      have HL := hid hl
      have HLO := hid hlo
      clear hls hl hlo hown hb3 x0 x1 x2
      obtain ⟨W, hW⟩ : ∃ W, W = w3.alloc (.cells #[Value.slice (some ⟨g, 0, none⟩) h.objs.length c3, Value.int .i64 h.cap, Value.int .i64 h.last] 24) := ⟨_, rfl⟩
      have hG : Lies W w3.heap.size 24 #[Value.slice (some ⟨g, 0, none⟩) h.objs.length c3, Value.int .i64 h.cap, Value.int .i64 h.last] := by rw [hW]; exact Lies.new _ _ _
      rw [← hW] at HA3 HOA q3
      have HG := hid hG
      have HXW := hid (HX3.out.later HA3.out)
      have HKW := hid (HK3.out.later HA3.out)
      have HBW := hid (HB3.out.trans (HA3.out.mono HB3.out.size))
      go_upto_region 9 with fail
      rw [← hW]
      clear hW hG
      have x0 := HXW.out.cell 0
      have x1 := HXW.out.cell 1
      have x2 := HXW.out.cell 2
      have z0 := HG.out.cell 0
      simp only [List.getElem?_toArray, List.getElem?_cons_zero, List.getElem?_cons_succ] at x0 x1 x2 z0
      refine wp_region_held_drew (S := (fun w' => w'.cell? ⟨w.heap.size, 0, none⟩ = some (.slice A h.objs.length c) ∧ w'.cell? ⟨w.heap.size, 1, none⟩ = some (.int .i64 h.cap) ∧ w'.cell? ⟨w.heap.size, 2, none⟩ = some (.int .i64 h.last) ∧ w'.cell? ⟨w3.heap.size, 0, none⟩ = some (.slice (some ⟨g, 0, none⟩) h.objs.length c3) ∧ w'.cell? ⟨g, i * 6 + 3, none⟩ = some (.string tt) ∧ Below W.heap.size W w')) (by kernel_rfl) ?_ (fun hHeld => ?_)
      · exact ⟨x0, x1, x2, z0, q3, (Below.refl _ _).drew⟩
      refine wpAnyH_take (i := 0) (oi := { dst := some 37, op := Go.Op.fieldAddr 24 (Go.Operand.tmp 11) 0, type := 0, pos := "ref.go:171", after := #[], guard := none }) (v := ?vv1) rfl (by kernel_rfl) (by kernel_rfl) (by kernel_rfl) (fun _ _ _ h => h) (Or.inl ⟨by rfl, ?hy1⟩) (by assumption) ?rr1
      case hy1 => intro w hSw; (try dsimp only at hSw); go_simp; all_goals with_reducible rfl
      try simp only [Act.put, List.setIfInBounds_toArray, List.set_cons_zero, List.set_cons_succ]
      refine wpAnyH_take (i := 1) (oi := { dst := some 38, op := Go.Op.load 22 (Go.Operand.tmp 37), type := 22, pos := "ref.go:171", after := #[{ on := 0, ground := Go.Ground.data }], guard := none }) (v := ?vv2) rfl (by kernel_rfl) (by kernel_rfl) (by kernel_rfl) (fun _ _ _ h => h) (Or.inl ⟨by rfl, ?hy2⟩) (by assumption) ?rr2
      case hy2 => intro w hSw; (try dsimp only at hSw); go_simp; all_goals with_reducible rfl
      try simp only [Act.put, List.setIfInBounds_toArray, List.set_cons_zero, List.set_cons_succ]
      refine wpAnyH_take (i := 2) (oi := { dst := some 39, op := Go.Op.load 24 (Go.Operand.tmp 4), type := 24, pos := "ref.go:171", after := #[], guard := none }) (v := ?vv3) rfl (by kernel_rfl) (by kernel_rfl) (by kernel_rfl) (fun _ _ _ h => h) (Or.inl ⟨by rfl, ?hy3⟩) (by assumption) ?rr3
      case hy3 => intro w hSw; (try dsimp only at hSw); go_simp; all_goals with_reducible rfl
      try simp only [Act.put, List.setIfInBounds_toArray, List.set_cons_zero, List.set_cons_succ]
      refine wpAnyH_take (i := 3) (oi := { dst := some 40, op := Go.Op.move (Go.Operand.tmp 1), type := 3, pos := "ref.go:171", after := #[], guard := none }) (v := ?vv4) rfl (by kernel_rfl) (by kernel_rfl) (by kernel_rfl) (fun _ _ _ h => h) (Or.inl ⟨by rfl, ?hy4⟩) (by assumption) ?rr4
      case hy4 => intro w hSw; (try dsimp only at hSw); go_simp; all_goals with_reducible rfl
      try simp only [Act.put, List.setIfInBounds_toArray, List.set_cons_zero, List.set_cons_succ]
      refine wpAnyH_ready (rs := [4]) (by kernel_rfl) (by simp) ?_
      refine AllReadyH.cons (i := 4) (o := { dst := some 41, op := Go.Op.call { callee := Go.Callee.value (Go.Operand.func 34), args := #[Go.Operand.tmp 39, Go.Operand.tmp 40], argTypes := #[24, 3] }, type := 3, pos := "ref.go:171", after := #[{ on := 2, ground := Go.Ground.data }, { on := 3, ground := Go.Ground.data }], guard := none }) rfl (fun K hK => ?_) AllReadyH.nil
      go_simp
      go_at_call 34
      refine (rref_any h v A c _).mono ?_
      rintro e w' ⟨rfl, hb⟩
      rw [hri]
      refine hK.out _ _ ?_ (fun hHeld => ?_)
      · exact ⟨cell_later hb x0, cell_later hb x1, cell_later hb x2, cell_later hb z0, cell_later hb q3, then_s (Below.refl _ _).drew hb⟩
      clear hK K
      try simp only [Act.put, List.setIfInBounds_toArray, List.set_cons_zero, List.set_cons_succ]
      have hH1 := hHeld
      clear hHeld hb
      have hHeld := hH1
      refine wpAnyH_take (i := 5) (oi := { dst := some 42, op := Go.Op.indexAddr 22 (Go.Operand.tmp 38) (Go.Operand.tmp 41), type := 0, pos := "ref.go:171", after := #[{ on := 1, ground := Go.Ground.data }, { on := 4, ground := Go.Ground.data }], guard := none }) (v := ?vv5) rfl (by kernel_rfl) (by kernel_rfl) (by kernel_rfl) (fun _ _ _ h => h) (Or.inl ⟨by rfl, ?hy5⟩) (by assumption) ?rr5
      case hy5 => intro w hSw; (try dsimp only at hSw); go_simp; all_goals with_reducible rfl
      try simp only [Act.put, List.setIfInBounds_toArray, List.set_cons_zero, List.set_cons_succ]
      refine wpAnyH_take (i := 6) (oi := { dst := some 43, op := Go.Op.fieldAddr 46 (Go.Operand.tmp 42) 3, type := 0, pos := "ref.go:171", after := #[{ on := 5, ground := Go.Ground.data }], guard := none }) (v := ?vv6) rfl (by kernel_rfl) (by kernel_rfl) (by kernel_rfl) (fun _ _ _ h => h) (Or.inl ⟨by rfl, ?hy6⟩) (by assumption) ?rr6
      case hy6 => intro w hSw; (try dsimp only at hSw); go_simp; all_goals with_reducible rfl
      try simp only [Act.put, List.setIfInBounds_toArray, List.set_cons_zero, List.set_cons_succ]
      refine wpAnyH_take (i := 7) (oi := { dst := some 44, op := Go.Op.load 9 (Go.Operand.tmp 43), type := 9, pos := "ref.go:171", after := #[{ on := 6, ground := Go.Ground.data }], guard := none }) (v := ?vv7) rfl (by kernel_rfl) (by kernel_rfl) (by kernel_rfl) (fun _ _ _ h => h) (Or.inl ⟨by rfl, ?hy7⟩) (by assumption) ?rr7
      case hy7 => intro w hSw; (try dsimp only at hSw); go_simp; all_goals with_reducible rfl
      try simp only [Act.put, List.setIfInBounds_toArray, List.set_cons_zero, List.set_cons_succ]
      refine wpAnyH_take (i := 8) (oi := { dst := some 12, op := Go.Op.assign (Go.Operand.tmp 44), type := 9, pos := "ref.go:171", after := #[{ on := 7, ground := Go.Ground.data }, { on := 4, ground := Go.Ground.chain }, { on := 0, ground := Go.Ground.phase }, { on := 1, ground := Go.Ground.phase }, { on := 2, ground := Go.Ground.phase }, { on := 3, ground := Go.Ground.phase }, { on := 4, ground := Go.Ground.phase }, { on := 5, ground := Go.Ground.phase }, { on := 6, ground := Go.Ground.phase }, { on := 7, ground := Go.Ground.phase }], guard := none }) (v := ?vv8) rfl (by kernel_rfl) (by kernel_rfl) (by kernel_rfl) (fun _ _ _ h => h) (Or.inl ⟨by rfl, ?hy8⟩) (by assumption) ?rr8
      case hy8 => intro w hSw; (try dsimp only at hSw); go_simp; all_goals with_reducible rfl
      try simp only [Act.put, List.setIfInBounds_toArray, List.set_cons_zero, List.set_cons_succ]
      refine wpAnyH_done (by kernel_rfl) ?_ _
      have hHeldB := hHeld.2.2.2.2.2
      rename World => w5
      have HB5 := hid (HBW.out.trans (hHeldB.mono HBW.out.size))
      have HX5 := hid (HXW.out.later hHeldB)
      have HK5 := hid (HKW.out.later hHeldB)
      have HG5 := hid (HG.out.later hHeldB)
      have HO5 := hid (HOA.out.later hHeldB)
      have hz35 : w3.heap.size < w5.heap.size := HG5.out.lt
      clear hHeld hHeldB hH1 x0 x1 x2 z0 q3
      have x0 := HX5.out.cell 0
      have x1 := HX5.out.cell 1
      have x2 := HX5.out.cell 2
      have z0 := HG5.out.cell 0
      simp only [List.getElem?_toArray, List.getElem?_cons_zero, List.getElem?_cons_succ] at x0 x1 x2 z0
      go_wp2_with fail
      have hcc1 : ¬ 9223372036854775807 < j + 1 := by omega
      have hcc2 : ¬ 9223372036854775807 < j + 1 + (tt.size - (j + 1)) := by omega
      have hneq : w.heap.size ≠ g := by omega
      have hneg : w3.heap.size ≠ g := by omega
      refine wp_region_held_drew (S := (fun w' => w'.cell? ⟨w.heap.size, 0, none⟩ = some (.slice A h.objs.length c) ∧ w'.cell? ⟨w.heap.size, 1, none⟩ = some (.int .i64 h.cap) ∧ w'.cell? ⟨w.heap.size, 2, none⟩ = some (.int .i64 h.last) ∧ w'.cell? ⟨w3.heap.size, 0, none⟩ = some (.slice (some ⟨g, 0, none⟩) h.objs.length c3))) (by kernel_rfl) ?_ (fun hH0 => ?_)
      · exact ⟨x0, x1, x2, z0⟩
      refine wpAnyH_take (i := 0) (oi := { dst := some 45, op := Go.Op.fieldAddr 24 (Go.Operand.tmp 11) 0, type := 0, pos := "ref.go:172", after := #[], guard := none }) (v := ?vv9) rfl (by kernel_rfl) (by kernel_rfl) (by kernel_rfl) (fun _ _ _ h => h) (Or.inl ⟨by rfl, ?hy9⟩) (by assumption) ?rr9
      case hy9 => intro w hSw; (try dsimp only at hSw); go_simp; all_goals with_reducible rfl
      try simp only [Act.put, List.setIfInBounds_toArray, List.set_cons_zero, List.set_cons_succ]
      refine wpAnyH_take (i := 1) (oi := { dst := some 46, op := Go.Op.load 22 (Go.Operand.tmp 45), type := 22, pos := "ref.go:172", after := #[{ on := 0, ground := Go.Ground.data }], guard := none }) (v := ?vv10) rfl (by kernel_rfl) (by kernel_rfl) (by kernel_rfl) (fun _ _ _ h => h) (Or.inl ⟨by rfl, ?hy10⟩) (by assumption) ?rr10
      case hy10 => intro w hSw; (try dsimp only at hSw); go_simp; all_goals with_reducible rfl
      try simp only [Act.put, List.setIfInBounds_toArray, List.set_cons_zero, List.set_cons_succ]
      refine wpAnyH_take (i := 2) (oi := { dst := some 47, op := Go.Op.load 24 (Go.Operand.tmp 4), type := 24, pos := "ref.go:172", after := #[], guard := none }) (v := ?vv11) rfl (by kernel_rfl) (by kernel_rfl) (by kernel_rfl) (fun _ _ _ h => h) (Or.inl ⟨by rfl, ?hy11⟩) (by assumption) ?rr11
      case hy11 => intro w hSw; (try dsimp only at hSw); go_simp; all_goals with_reducible rfl
      try simp only [Act.put, List.setIfInBounds_toArray, List.set_cons_zero, List.set_cons_succ]
      refine wpAnyH_take (i := 3) (oi := { dst := some 48, op := Go.Op.move (Go.Operand.tmp 1), type := 3, pos := "ref.go:172", after := #[], guard := none }) (v := ?vv12) rfl (by kernel_rfl) (by kernel_rfl) (by kernel_rfl) (fun _ _ _ h => h) (Or.inl ⟨by rfl, ?hy12⟩) (by assumption) ?rr12
      case hy12 => intro w hSw; (try dsimp only at hSw); go_simp; all_goals with_reducible rfl
      try simp only [Act.put, List.setIfInBounds_toArray, List.set_cons_zero, List.set_cons_succ]
      refine wpAnyH_take (i := 5) (oi := { dst := some 50, op := Go.Op.move (Go.Operand.tmp 12), type := 9, pos := "ref.go:172", after := #[], guard := none }) (v := ?vv13) rfl (by kernel_rfl) (by kernel_rfl) (by kernel_rfl) (fun _ _ _ h => h) (Or.inl ⟨by rfl, ?hy13⟩) (by assumption) ?rr13
      case hy13 => intro w hSw; (try dsimp only at hSw); go_simp; all_goals with_reducible rfl
      try simp only [Act.put, List.setIfInBounds_toArray, List.set_cons_zero, List.set_cons_succ]
      refine wpAnyH_take (i := 6) (oi := { dst := some 51, op := Go.Op.move (Go.Operand.tmp 2), type := 3, pos := "ref.go:172", after := #[], guard := none }) (v := ?vv14) rfl (by kernel_rfl) (by kernel_rfl) (by kernel_rfl) (fun _ _ _ h => h) (Or.inl ⟨by rfl, ?hy14⟩) (by assumption) ?rr14
      case hy14 => intro w hSw; (try dsimp only at hSw); go_simp; all_goals with_reducible rfl
      try simp only [Act.put, List.setIfInBounds_toArray, List.set_cons_zero, List.set_cons_succ]
      refine wpAnyH_take (i := 7) (oi := { dst := some 52, op := Go.Op.slice 9 (Go.Operand.tmp 50) none (some (Go.Operand.tmp 51)) none, type := 9, pos := "ref.go:172", after := #[{ on := 5, ground := Go.Ground.data }, { on := 6, ground := Go.Ground.data }], guard := none }) (v := ?vv15) rfl (by kernel_rfl) (by kernel_rfl) (by kernel_rfl) (fun _ _ _ h => h) (Or.inl ⟨by rfl, ?hy15⟩) (by assumption) ?rr15
      case hy15 => intro w hSw; (try dsimp only at hSw); go_simp; all_goals with_reducible rfl
      try simp only [Act.put, List.setIfInBounds_toArray, List.set_cons_zero, List.set_cons_succ]
      refine wpAnyH_take (i := 8) (oi := { dst := some 53, op := Go.Op.move (Go.Operand.tmp 3), type := 3, pos := "ref.go:172", after := #[], guard := none }) (v := ?vv16) rfl (by kernel_rfl) (by kernel_rfl) (by kernel_rfl) (fun _ _ _ h => h) (Or.inl ⟨by rfl, ?hy16⟩) (by assumption) ?rr16
      case hy16 => intro w hSw; (try dsimp only at hSw); go_simp; all_goals with_reducible rfl
      try simp only [Act.put, List.setIfInBounds_toArray, List.set_cons_zero, List.set_cons_succ]
      refine wpAnyH_take (i := 9) (oi := { dst := some 54, op := Go.Op.convert 3 5 (Go.Operand.tmp 53), type := 5, pos := "ref.go:172", after := #[{ on := 8, ground := Go.Ground.data }], guard := none }) (v := ?vv17) rfl (by kernel_rfl) (by kernel_rfl) (by kernel_rfl) (fun _ _ _ h => h) (Or.inl ⟨by rfl, ?hy17⟩) (by assumption) ?rr17
      case hy17 => intro w hSw; (try dsimp only at hSw); go_simp; all_goals with_reducible rfl
      try simp only [Act.put, List.setIfInBounds_toArray, List.set_cons_zero, List.set_cons_succ]
      refine wpAnyH_take (i := 13) (oi := { dst := some 58, op := Go.Op.move (Go.Operand.tmp 12), type := 9, pos := "ref.go:172", after := #[], guard := none }) (v := ?vv18) rfl (by kernel_rfl) (by kernel_rfl) (by kernel_rfl) (fun _ _ _ h => h) (Or.inl ⟨by rfl, ?hy18⟩) (by assumption) ?rr18
      case hy18 => intro w hSw; (try dsimp only at hSw); go_simp; all_goals with_reducible rfl
      try simp only [Act.put, List.setIfInBounds_toArray, List.set_cons_zero, List.set_cons_succ]
      refine wpAnyH_take (i := 14) (oi := { dst := some 59, op := Go.Op.move (Go.Operand.tmp 2), type := 3, pos := "ref.go:172", after := #[], guard := none }) (v := ?vv19) rfl (by kernel_rfl) (by kernel_rfl) (by kernel_rfl) (fun _ _ _ h => h) (Or.inl ⟨by rfl, ?hy19⟩) (by assumption) ?rr19
      case hy19 => intro w hSw; (try dsimp only at hSw); go_simp; all_goals with_reducible rfl
      try simp only [Act.put, List.setIfInBounds_toArray, List.set_cons_zero, List.set_cons_succ]
      refine wpAnyH_take (i := 15) (oi := { dst := some 60, op := Go.Op.binOp Go.BinOp.add 3 (Go.Operand.tmp 59) (Go.Operand.const (Go.Value.int Go.IntKind.i64 1)) 3, type := 3, pos := "ref.go:172", after := #[{ on := 14, ground := Go.Ground.data }], guard := none }) (v := ?vv20) rfl (by kernel_rfl) (by kernel_rfl) (by kernel_rfl) (fun _ _ _ h => h) (Or.inl ⟨by rfl, ?hy20⟩) (by assumption) ?rr20
      case hy20 => intro w hSw; (try dsimp only at hSw); go_simp; all_goals with_reducible rfl
      try simp only [Act.put, List.setIfInBounds_toArray, List.set_cons_zero, List.set_cons_succ]
      refine wpAnyH_take (i := 16) (oi := { dst := some 61, op := Go.Op.slice 9 (Go.Operand.tmp 58) (some (Go.Operand.tmp 60)) none none, type := 9, pos := "ref.go:172", after := #[{ on := 13, ground := Go.Ground.data }, { on := 15, ground := Go.Ground.data }], guard := none }) (v := ?vv21) rfl (by kernel_rfl) (by kernel_rfl) (by kernel_rfl) (fun _ _ _ h => h) (Or.inl ⟨by rfl, ?hy21⟩) (by assumption) ?rr21
      case hy21 => intro w hSw; (try dsimp only at hSw); go_simp; all_goals with_reducible rfl
      try simp only [Act.put, List.setIfInBounds_toArray, List.set_cons_zero, List.set_cons_succ]
      refine wpAnyH_ready (rs := [4, 10]) (by kernel_rfl) (by simp) ?_
      refine AllReadyH.cons (i := 4) (o := { dst := some 49, op := Go.Op.call { callee := Go.Callee.value (Go.Operand.func 34), args := #[Go.Operand.tmp 47, Go.Operand.tmp 48], argTypes := #[24, 3] }, type := 3, pos := "ref.go:172", after := #[{ on := 2, ground := Go.Ground.data }, { on := 3, ground := Go.Ground.data }], guard := none }) rfl (fun K hK => ?_) (AllReadyH.cons (i := 10) (o := { dst := some 55, op := Go.Op.buildSlice 76 1 #[(0, Go.Operand.tmp 54)], type := 76, pos := "ref.go:172", after := #[{ on := 9, ground := Go.Ground.data }], guard := none }) rfl (fun K hK => ?_) AllReadyH.nil)
      · go_simp
        go_at_call 34
        refine (rref_any h v A c _).mono ?_
        rintro e w' ⟨rfl, hb⟩
        rw [hri]
        have hB0_ : Below w5.heap.size w5 w' := then_s (Below.refl _ _).drew hb
        refine hK.out _ _ ?_ (fun hH1 => ?_)
        · exact ⟨cell_later hb hH0.1, cell_later hb hH0.2.1, cell_later hb hH0.2.2.1, cell_later hb hH0.2.2.2⟩
        clear hK K
        try simp only [Act.put, List.setIfInBounds_toArray, List.set_cons_zero, List.set_cons_succ]
        clear hb
        refine wpAnyH_ready (rs := [10]) (by kernel_rfl) (by simp) ?_
        refine AllReadyH.cons (i := 10) (o := { dst := some 55, op := Go.Op.buildSlice 76 1 #[(0, Go.Operand.tmp 54)], type := 76, pos := "ref.go:172", after := #[{ on := 9, ground := Go.Ground.data }], guard := none }) rfl (fun K hK => ?_) AllReadyH.nil
        go_simp
        refine hK.out _ _ ?_ (fun hH2 => ?_)
        · exact ⟨cell_old hH1.1, cell_old hH1.2.1, cell_old hH1.2.2.1, cell_old hH1.2.2.2⟩
        clear hK K
        try simp only [Act.put, List.setIfInBounds_toArray, List.set_cons_zero, List.set_cons_succ]
        refine wpAnyH_ready (rs := [11]) (by kernel_rfl) (by simp) ?_
        refine AllReadyH.cons (i := 11) (o := { dst := some 56, op := Go.Op.convert 76 9 (Go.Operand.tmp 55), type := 9, pos := "ref.go:172", after := #[{ on := 10, ground := Go.Ground.data }], guard := none }) rfl (fun K hK => ?_) AllReadyH.nil
        have hcv := conv1 (w'.alloc (.cells #[.int .u8 x] 5)) w'.heap.size x hx0 hx1 (by rw [(Lies.new w' 5 #[.int .u8 x]).cell]; rfl)
        go_simp
        refine hK.out _ _ ?_ (fun hH3 => ?_)
        · exact hH2
        clear hK K
        try simp only [Act.put, List.setIfInBounds_toArray, List.set_cons_zero, List.set_cons_succ]
        refine wpAnyH_take (i := 12) (oi := { dst := some 57, op := Go.Op.binOp Go.BinOp.add 9 (Go.Operand.tmp 52) (Go.Operand.tmp 56) 9, type := 9, pos := "ref.go:172", after := #[{ on := 7, ground := Go.Ground.data }, { on := 11, ground := Go.Ground.data }], guard := none }) (v := ?vv22) rfl (by kernel_rfl) (by kernel_rfl) (by kernel_rfl) (fun _ _ _ h => h) (Or.inl ⟨by rfl, ?hy22⟩) (by assumption) ?rr22
        case hy22 => intro w hSw; (try dsimp only at hSw); go_simp; all_goals with_reducible rfl
        try simp only [Act.put, List.setIfInBounds_toArray, List.set_cons_zero, List.set_cons_succ]
        refine wpAnyH_take (i := 17) (oi := { dst := some 62, op := Go.Op.binOp Go.BinOp.add 9 (Go.Operand.tmp 57) (Go.Operand.tmp 61) 9, type := 9, pos := "ref.go:172", after := #[{ on := 12, ground := Go.Ground.data }, { on := 16, ground := Go.Ground.data }], guard := none }) (v := ?vv23) rfl (by kernel_rfl) (by kernel_rfl) (by kernel_rfl) (fun _ _ _ h => h) (Or.inl ⟨by rfl, ?hy23⟩) (by assumption) ?rr23
        case hy23 => intro w hSw; (try dsimp only at hSw); go_simp; all_goals with_reducible rfl
        try simp only [Act.put, List.setIfInBounds_toArray, List.set_cons_zero, List.set_cons_succ]
        refine wpAnyH_take (i := 18) (oi := { dst := some 63, op := Go.Op.indexAddr 22 (Go.Operand.tmp 46) (Go.Operand.tmp 49), type := 0, pos := "ref.go:172", after := #[{ on := 1, ground := Go.Ground.data }, { on := 4, ground := Go.Ground.data }, { on := 0, ground := Go.Ground.phase }, { on := 1, ground := Go.Ground.phase }, { on := 2, ground := Go.Ground.phase }, { on := 3, ground := Go.Ground.phase }, { on := 4, ground := Go.Ground.phase }, { on := 5, ground := Go.Ground.phase }, { on := 6, ground := Go.Ground.phase }, { on := 7, ground := Go.Ground.phase }, { on := 8, ground := Go.Ground.phase }, { on := 9, ground := Go.Ground.phase }, { on := 10, ground := Go.Ground.phase }, { on := 11, ground := Go.Ground.phase }, { on := 12, ground := Go.Ground.phase }, { on := 13, ground := Go.Ground.phase }, { on := 14, ground := Go.Ground.phase }, { on := 15, ground := Go.Ground.phase }, { on := 16, ground := Go.Ground.phase }, { on := 17, ground := Go.Ground.phase }], guard := none }) (v := ?vv24) rfl (by kernel_rfl) (by kernel_rfl) (by kernel_rfl) (fun _ _ _ h => h) (Or.inl ⟨by rfl, ?hy24⟩) (by assumption) ?rr24
        case hy24 => intro w hSw; (try dsimp only at hSw); go_simp; all_goals with_reducible rfl
        try simp only [Act.put, List.setIfInBounds_toArray, List.set_cons_zero, List.set_cons_succ]
        refine wpAnyH_take (i := 19) (oi := { dst := some 64, op := Go.Op.fieldAddr 46 (Go.Operand.tmp 63) 3, type := 0, pos := "ref.go:172", after := #[{ on := 18, ground := Go.Ground.data }, { on := 0, ground := Go.Ground.phase }, { on := 1, ground := Go.Ground.phase }, { on := 2, ground := Go.Ground.phase }, { on := 3, ground := Go.Ground.phase }, { on := 4, ground := Go.Ground.phase }, { on := 5, ground := Go.Ground.phase }, { on := 6, ground := Go.Ground.phase }, { on := 7, ground := Go.Ground.phase }, { on := 8, ground := Go.Ground.phase }, { on := 9, ground := Go.Ground.phase }, { on := 10, ground := Go.Ground.phase }, { on := 11, ground := Go.Ground.phase }, { on := 12, ground := Go.Ground.phase }, { on := 13, ground := Go.Ground.phase }, { on := 14, ground := Go.Ground.phase }, { on := 15, ground := Go.Ground.phase }, { on := 16, ground := Go.Ground.phase }, { on := 17, ground := Go.Ground.phase }], guard := none }) (v := ?vv25) rfl (by kernel_rfl) (by kernel_rfl) (by kernel_rfl) (fun _ _ _ h => h) (Or.inl ⟨by rfl, ?hy25⟩) (by assumption) ?rr25
        case hy25 => intro w hSw; (try dsimp only at hSw); go_simp; all_goals with_reducible rfl
        try simp only [Act.put, List.setIfInBounds_toArray, List.set_cons_zero, List.set_cons_succ]
        refine wpAnyH_ready (rs := [20]) (by kernel_rfl) (by simp) ?_
        refine AllReadyH.cons (i := 20) (o := { dst := none, op := Go.Op.store 9 (Go.Operand.tmp 64) (Go.Operand.tmp 62), type := 0, pos := "ref.go:172", after := #[{ on := 19, ground := Go.Ground.data }, { on := 17, ground := Go.Ground.data }, { on := 4, ground := Go.Ground.chain }, { on := 0, ground := Go.Ground.phase }, { on := 1, ground := Go.Ground.phase }, { on := 2, ground := Go.Ground.phase }, { on := 3, ground := Go.Ground.phase }, { on := 4, ground := Go.Ground.phase }, { on := 5, ground := Go.Ground.phase }, { on := 6, ground := Go.Ground.phase }, { on := 7, ground := Go.Ground.phase }, { on := 8, ground := Go.Ground.phase }, { on := 9, ground := Go.Ground.phase }, { on := 10, ground := Go.Ground.phase }, { on := 11, ground := Go.Ground.phase }, { on := 12, ground := Go.Ground.phase }, { on := 13, ground := Go.Ground.phase }, { on := 14, ground := Go.Ground.phase }, { on := 15, ground := Go.Ground.phase }, { on := 16, ground := Go.Ground.phase }, { on := 17, ground := Go.Ground.phase }], guard := none }) rfl (fun K hK => ?_) AllReadyH.nil
        have hBf : Below w5.heap.size w5 (w'.alloc (.cells #[.int .u8 x] 5)) := then_s hB0_ (below_alloc _ _)
        have hOf := HO5.out.later hBf
        have sq := (hOf.row.cellAt (i * 6 + 3) (by omega)).trans (rowOf_get ls i 3 _ HL.out (by omega))
        have sf := hOf.row.frozenAt (i * 6 + 3)
        simp only [LO.cells, List.getElem?_cons_zero, List.getElem?_cons_succ] at sq
        rw [str_set tt j hjn x]
        go_simp
        refine hK.out _ _ ?_ (fun hH4 => ?_)
        · exact ⟨cell_far hneq hH3.1, cell_far hneq hH3.2.1, cell_far hneq hH3.2.2.1, cell_far hneg hH3.2.2.2⟩
        clear hK K
        try simp only [Act.put, List.setIfInBounds_toArray, List.set_cons_zero, List.set_cons_succ]
        refine wpAnyH_done (by kernel_rfl) ?_ _
        obtain ⟨V, hV⟩ : ∃ V, V = World.setCell (w'.alloc (.cells #[.int .u8 x] 5)) ⟨g, i * 6 + 3, none⟩ (.string (setT tt j x)) := ⟨_, rfl⟩
        rw [← hV]
        have hOV := hOf.text (s := setT tt j x) HL.out
        have hKV := (HK5.out.later hBf).far (p := ⟨g, i * 6 + 3, none⟩) (by show w.heap.size + 1 ≠ g; omega) (.string (setT tt j x))
        have hGV := (HG5.out.later hBf).far (p := ⟨g, i * 6 + 3, none⟩) (by show w3.heap.size ≠ g; omega) (.string (setT tt j x))
        have hBV := (HB5.out.trans (hBf.mono HB5.out.size)).setCell (p := ⟨g, i * 6 + 3, none⟩) (by show w.heap.size ≤ g; omega) (.string (setT tt j x))
        rw [← hV] at hOV hKV hGV hBV
        have HOV := hid hOV
        have HKV := hid hKV
        have HBV := hid hBV
        have z0 := hGV.cell 0
        have z1 := hGV.cell 1
        have z2 := hGV.cell 2
        simp only [List.getElem?_toArray, List.getElem?_cons_zero, List.getElem?_cons_succ] at z0 z1 z2
        have u0 := HKV.out.cell 0
        have uf0 := HKV.out.frozen 0
        have u1 := HKV.out.cell 1
        have uf1 := HKV.out.frozen 1
        have u2 := HKV.out.cell 2
        have uf2 := HKV.out.frozen 2
        simp only [List.getElem?_toArray, List.getElem?_cons_zero, List.getElem?_cons_succ] at u0 u1 u2
        clear hV hOV hKV hGV hBV hOf sq sf
        go_wp2_with fail
        have K0 := (((HKV.out.set_ 0 (.slice (some ⟨g, 0, none⟩) h.objs.length c3)).set_ 1 (.int .i64 h.cap)).set_ 2 (.int .i64 h.last))
        have r0 := K0.cell 0
        have r1 := K0.cell 1
        have r2 := K0.cell 2
        simp only [List.setIfInBounds_toArray, List.set_cons_zero, List.set_cons_succ, List.getElem?_toArray, List.getElem?_cons_zero, List.getElem?_cons_succ] at r0 r1 r2
        refine bodyPost_ret (v := .tuple #[.agg #[.slice (some ⟨g, 0, none⟩) h.objs.length c3, .int .i64 h.cap, .int .i64 h.last], .int .i64 0]) (by simp [results, Try.results25, go_sem, r0, r1, r2]) rfl ?_
        rw [EE.out, ER.out]
        refine ⟨some ⟨g, 0, none⟩, c3, by simp, own_obs (c := c3) (ls := ls.set i ⟨{ l.o with text := setT tt j x }, l.S, l.c⟩) (base := w1.heap.size) ?_ ?_, (((HBV.out).setCell (p := ⟨w.heap.size + 1, 0, none⟩) (by simp) _).setCell (p := ⟨w.heap.size + 1, 1, none⟩) (by simp) _).setCell (p := ⟨w.heap.size + 1, 2, none⟩) (by simp) _⟩
        · exact ((HOV.out.low (p := ⟨w.heap.size + 1, 0, none⟩) (by simp; omega) _).low (p := ⟨w.heap.size + 1, 1, none⟩) (by simp; omega) _).low (p := ⟨w.heap.size + 1, 2, none⟩) (by simp; omega) _
        · show List.map _ _ = h.objs.set i _
          rw [List.map_set, HLS.out, HLO.out, HTT.out]
      · go_simp
        refine hK.out _ _ ?_ (fun hH1 => ?_)
        · exact ⟨cell_old hH0.1, cell_old hH0.2.1, cell_old hH0.2.2.1, cell_old hH0.2.2.2⟩
        clear hK K
        try simp only [Act.put, List.setIfInBounds_toArray, List.set_cons_zero, List.set_cons_succ]
        refine wpAnyH_ready (rs := [4, 11]) (by kernel_rfl) (by simp) ?_
        refine AllReadyH.cons (i := 4) (o := { dst := some 49, op := Go.Op.call { callee := Go.Callee.value (Go.Operand.func 34), args := #[Go.Operand.tmp 47, Go.Operand.tmp 48], argTypes := #[24, 3] }, type := 3, pos := "ref.go:172", after := #[{ on := 2, ground := Go.Ground.data }, { on := 3, ground := Go.Ground.data }], guard := none }) rfl (fun K hK => ?_) (AllReadyH.cons (i := 11) (o := { dst := some 56, op := Go.Op.convert 76 9 (Go.Operand.tmp 55), type := 9, pos := "ref.go:172", after := #[{ on := 10, ground := Go.Ground.data }], guard := none }) rfl (fun K hK => ?_) AllReadyH.nil)
        · go_simp
          go_at_call 34
          refine (rref_any h v A c _).mono ?_
          rintro e w' ⟨rfl, hb⟩
          rw [hri]
          have hB0_ : Below w5.heap.size w5 w' := then_s (below_alloc w5 (.cells #[.int .u8 x] 5)).drew hb
          have hbc : w'.cell? ⟨w5.heap.size, 0, none⟩ = some (.int .u8 x) := cell_later hb (cell_later (Below.refl _ _).drew (by rw [(Lies.new w5 5 #[.int .u8 x]).cell]; rfl))
          refine hK.out _ _ ?_ (fun hH2 => ?_)
          · exact ⟨cell_later hb hH1.1, cell_later hb hH1.2.1, cell_later hb hH1.2.2.1, cell_later hb hH1.2.2.2⟩
          clear hK K
          try simp only [Act.put, List.setIfInBounds_toArray, List.set_cons_zero, List.set_cons_succ]
          clear hb
          refine wpAnyH_ready (rs := [11]) (by kernel_rfl) (by simp) ?_
          refine AllReadyH.cons (i := 11) (o := { dst := some 56, op := Go.Op.convert 76 9 (Go.Operand.tmp 55), type := 9, pos := "ref.go:172", after := #[{ on := 10, ground := Go.Ground.data }], guard := none }) rfl (fun K hK => ?_) AllReadyH.nil
          have hcv := conv1 w' w5.heap.size x hx0 hx1 hbc
          go_simp
          refine hK.out _ _ ?_ (fun hH3 => ?_)
          · exact hH2
          clear hK K
          try simp only [Act.put, List.setIfInBounds_toArray, List.set_cons_zero, List.set_cons_succ]
          refine wpAnyH_take (i := 12) (oi := { dst := some 57, op := Go.Op.binOp Go.BinOp.add 9 (Go.Operand.tmp 52) (Go.Operand.tmp 56) 9, type := 9, pos := "ref.go:172", after := #[{ on := 7, ground := Go.Ground.data }, { on := 11, ground := Go.Ground.data }], guard := none }) (v := ?vv26) rfl (by kernel_rfl) (by kernel_rfl) (by kernel_rfl) (fun _ _ _ h => h) (Or.inl ⟨by rfl, ?hy26⟩) (by assumption) ?rr26
          case hy26 => intro w hSw; (try dsimp only at hSw); go_simp; all_goals with_reducible rfl
          try simp only [Act.put, List.setIfInBounds_toArray, List.set_cons_zero, List.set_cons_succ]
          refine wpAnyH_take (i := 17) (oi := { dst := some 62, op := Go.Op.binOp Go.BinOp.add 9 (Go.Operand.tmp 57) (Go.Operand.tmp 61) 9, type := 9, pos := "ref.go:172", after := #[{ on := 12, ground := Go.Ground.data }, { on := 16, ground := Go.Ground.data }], guard := none }) (v := ?vv27) rfl (by kernel_rfl) (by kernel_rfl) (by kernel_rfl) (fun _ _ _ h => h) (Or.inl ⟨by rfl, ?hy27⟩) (by assumption) ?rr27
          case hy27 => intro w hSw; (try dsimp only at hSw); go_simp; all_goals with_reducible rfl
          try simp only [Act.put, List.setIfInBounds_toArray, List.set_cons_zero, List.set_cons_succ]
          refine wpAnyH_take (i := 18) (oi := { dst := some 63, op := Go.Op.indexAddr 22 (Go.Operand.tmp 46) (Go.Operand.tmp 49), type := 0, pos := "ref.go:172", after := #[{ on := 1, ground := Go.Ground.data }, { on := 4, ground := Go.Ground.data }, { on := 0, ground := Go.Ground.phase }, { on := 1, ground := Go.Ground.phase }, { on := 2, ground := Go.Ground.phase }, { on := 3, ground := Go.Ground.phase }, { on := 4, ground := Go.Ground.phase }, { on := 5, ground := Go.Ground.phase }, { on := 6, ground := Go.Ground.phase }, { on := 7, ground := Go.Ground.phase }, { on := 8, ground := Go.Ground.phase }, { on := 9, ground := Go.Ground.phase }, { on := 10, ground := Go.Ground.phase }, { on := 11, ground := Go.Ground.phase }, { on := 12, ground := Go.Ground.phase }, { on := 13, ground := Go.Ground.phase }, { on := 14, ground := Go.Ground.phase }, { on := 15, ground := Go.Ground.phase }, { on := 16, ground := Go.Ground.phase }, { on := 17, ground := Go.Ground.phase }], guard := none }) (v := ?vv28) rfl (by kernel_rfl) (by kernel_rfl) (by kernel_rfl) (fun _ _ _ h => h) (Or.inl ⟨by rfl, ?hy28⟩) (by assumption) ?rr28
          case hy28 => intro w hSw; (try dsimp only at hSw); go_simp; all_goals with_reducible rfl
          try simp only [Act.put, List.setIfInBounds_toArray, List.set_cons_zero, List.set_cons_succ]
          refine wpAnyH_take (i := 19) (oi := { dst := some 64, op := Go.Op.fieldAddr 46 (Go.Operand.tmp 63) 3, type := 0, pos := "ref.go:172", after := #[{ on := 18, ground := Go.Ground.data }, { on := 0, ground := Go.Ground.phase }, { on := 1, ground := Go.Ground.phase }, { on := 2, ground := Go.Ground.phase }, { on := 3, ground := Go.Ground.phase }, { on := 4, ground := Go.Ground.phase }, { on := 5, ground := Go.Ground.phase }, { on := 6, ground := Go.Ground.phase }, { on := 7, ground := Go.Ground.phase }, { on := 8, ground := Go.Ground.phase }, { on := 9, ground := Go.Ground.phase }, { on := 10, ground := Go.Ground.phase }, { on := 11, ground := Go.Ground.phase }, { on := 12, ground := Go.Ground.phase }, { on := 13, ground := Go.Ground.phase }, { on := 14, ground := Go.Ground.phase }, { on := 15, ground := Go.Ground.phase }, { on := 16, ground := Go.Ground.phase }, { on := 17, ground := Go.Ground.phase }], guard := none }) (v := ?vv29) rfl (by kernel_rfl) (by kernel_rfl) (by kernel_rfl) (fun _ _ _ h => h) (Or.inl ⟨by rfl, ?hy29⟩) (by assumption) ?rr29
          case hy29 => intro w hSw; (try dsimp only at hSw); go_simp; all_goals with_reducible rfl
          try simp only [Act.put, List.setIfInBounds_toArray, List.set_cons_zero, List.set_cons_succ]
          refine wpAnyH_ready (rs := [20]) (by kernel_rfl) (by simp) ?_
          refine AllReadyH.cons (i := 20) (o := { dst := none, op := Go.Op.store 9 (Go.Operand.tmp 64) (Go.Operand.tmp 62), type := 0, pos := "ref.go:172", after := #[{ on := 19, ground := Go.Ground.data }, { on := 17, ground := Go.Ground.data }, { on := 4, ground := Go.Ground.chain }, { on := 0, ground := Go.Ground.phase }, { on := 1, ground := Go.Ground.phase }, { on := 2, ground := Go.Ground.phase }, { on := 3, ground := Go.Ground.phase }, { on := 4, ground := Go.Ground.phase }, { on := 5, ground := Go.Ground.phase }, { on := 6, ground := Go.Ground.phase }, { on := 7, ground := Go.Ground.phase }, { on := 8, ground := Go.Ground.phase }, { on := 9, ground := Go.Ground.phase }, { on := 10, ground := Go.Ground.phase }, { on := 11, ground := Go.Ground.phase }, { on := 12, ground := Go.Ground.phase }, { on := 13, ground := Go.Ground.phase }, { on := 14, ground := Go.Ground.phase }, { on := 15, ground := Go.Ground.phase }, { on := 16, ground := Go.Ground.phase }, { on := 17, ground := Go.Ground.phase }], guard := none }) rfl (fun K hK => ?_) AllReadyH.nil
          have hBf : Below w5.heap.size w5 w' := hB0_
          have hOf := HO5.out.later hBf
          have sq := (hOf.row.cellAt (i * 6 + 3) (by omega)).trans (rowOf_get ls i 3 _ HL.out (by omega))
          have sf := hOf.row.frozenAt (i * 6 + 3)
          simp only [LO.cells, List.getElem?_cons_zero, List.getElem?_cons_succ] at sq
          rw [str_set tt j hjn x]
          go_simp
          refine hK.out _ _ ?_ (fun hH4 => ?_)
          · exact ⟨cell_far hneq hH3.1, cell_far hneq hH3.2.1, cell_far hneq hH3.2.2.1, cell_far hneg hH3.2.2.2⟩
          clear hK K
          try simp only [Act.put, List.setIfInBounds_toArray, List.set_cons_zero, List.set_cons_succ]
          refine wpAnyH_done (by kernel_rfl) ?_ _
          obtain ⟨V, hV⟩ : ∃ V, V = World.setCell w' ⟨g, i * 6 + 3, none⟩ (.string (setT tt j x)) := ⟨_, rfl⟩
          rw [← hV]
          have hOV := hOf.text (s := setT tt j x) HL.out
          have hKV := (HK5.out.later hBf).far (p := ⟨g, i * 6 + 3, none⟩) (by show w.heap.size + 1 ≠ g; omega) (.string (setT tt j x))
          have hGV := (HG5.out.later hBf).far (p := ⟨g, i * 6 + 3, none⟩) (by show w3.heap.size ≠ g; omega) (.string (setT tt j x))
          have hBV := (HB5.out.trans (hBf.mono HB5.out.size)).setCell (p := ⟨g, i * 6 + 3, none⟩) (by show w.heap.size ≤ g; omega) (.string (setT tt j x))
          rw [← hV] at hOV hKV hGV hBV
          have HOV := hid hOV
          have HKV := hid hKV
          have HBV := hid hBV
          have z0 := hGV.cell 0
          have z1 := hGV.cell 1
          have z2 := hGV.cell 2
          simp only [List.getElem?_toArray, List.getElem?_cons_zero, List.getElem?_cons_succ] at z0 z1 z2
          have u0 := HKV.out.cell 0
          have uf0 := HKV.out.frozen 0
          have u1 := HKV.out.cell 1
          have uf1 := HKV.out.frozen 1
          have u2 := HKV.out.cell 2
          have uf2 := HKV.out.frozen 2
          simp only [List.getElem?_toArray, List.getElem?_cons_zero, List.getElem?_cons_succ] at u0 u1 u2
          clear hV hOV hKV hGV hBV hOf sq sf
          go_wp2_with fail
          have K0 := (((HKV.out.set_ 0 (.slice (some ⟨g, 0, none⟩) h.objs.length c3)).set_ 1 (.int .i64 h.cap)).set_ 2 (.int .i64 h.last))
          have r0 := K0.cell 0
          have r1 := K0.cell 1
          have r2 := K0.cell 2
          simp only [List.setIfInBounds_toArray, List.set_cons_zero, List.set_cons_succ, List.getElem?_toArray, List.getElem?_cons_zero, List.getElem?_cons_succ] at r0 r1 r2
          refine bodyPost_ret (v := .tuple #[.agg #[.slice (some ⟨g, 0, none⟩) h.objs.length c3, .int .i64 h.cap, .int .i64 h.last], .int .i64 0]) (by simp [results, Try.results25, go_sem, r0, r1, r2]) rfl ?_
          rw [EE.out, ER.out]
          refine ⟨some ⟨g, 0, none⟩, c3, by simp, own_obs (c := c3) (ls := ls.set i ⟨{ l.o with text := setT tt j x }, l.S, l.c⟩) (base := w1.heap.size) ?_ ?_, (((HBV.out).setCell (p := ⟨w.heap.size + 1, 0, none⟩) (by simp) _).setCell (p := ⟨w.heap.size + 1, 1, none⟩) (by simp) _).setCell (p := ⟨w.heap.size + 1, 2, none⟩) (by simp) _⟩
          · exact ((HOV.out.low (p := ⟨w.heap.size + 1, 0, none⟩) (by simp; omega) _).low (p := ⟨w.heap.size + 1, 1, none⟩) (by simp; omega) _).low (p := ⟨w.heap.size + 1, 2, none⟩) (by simp; omega) _
          · show List.map _ _ = h.objs.set i _
            rw [List.map_set, HLS.out, HLO.out, HTT.out]
        · have hcv := conv1 (w5.alloc (.cells #[.int .u8 x] 5)).drew w5.heap.size x hx0 hx1 (cell_later (Below.refl _ _).drew (by rw [(Lies.new w5 5 #[.int .u8 x]).cell]; rfl))
          go_simp
          refine hK.out _ _ ?_ (fun hH2 => ?_)
          · exact hH1
          clear hK K
          try simp only [Act.put, List.setIfInBounds_toArray, List.set_cons_zero, List.set_cons_succ]
          refine wpAnyH_take (i := 12) (oi := { dst := some 57, op := Go.Op.binOp Go.BinOp.add 9 (Go.Operand.tmp 52) (Go.Operand.tmp 56) 9, type := 9, pos := "ref.go:172", after := #[{ on := 7, ground := Go.Ground.data }, { on := 11, ground := Go.Ground.data }], guard := none }) (v := ?vv30) rfl (by kernel_rfl) (by kernel_rfl) (by kernel_rfl) (fun _ _ _ h => h) (Or.inl ⟨by rfl, ?hy30⟩) (by assumption) ?rr30
          case hy30 => intro w hSw; (try dsimp only at hSw); go_simp; all_goals with_reducible rfl
          try simp only [Act.put, List.setIfInBounds_toArray, List.set_cons_zero, List.set_cons_succ]
          refine wpAnyH_take (i := 17) (oi := { dst := some 62, op := Go.Op.binOp Go.BinOp.add 9 (Go.Operand.tmp 57) (Go.Operand.tmp 61) 9, type := 9, pos := "ref.go:172", after := #[{ on := 12, ground := Go.Ground.data }, { on := 16, ground := Go.Ground.data }], guard := none }) (v := ?vv31) rfl (by kernel_rfl) (by kernel_rfl) (by kernel_rfl) (fun _ _ _ h => h) (Or.inl ⟨by rfl, ?hy31⟩) (by assumption) ?rr31
          case hy31 => intro w hSw; (try dsimp only at hSw); go_simp; all_goals with_reducible rfl
          try simp only [Act.put, List.setIfInBounds_toArray, List.set_cons_zero, List.set_cons_succ]
          refine wpAnyH_ready (rs := [4]) (by kernel_rfl) (by simp) ?_
          refine AllReadyH.cons (i := 4) (o := { dst := some 49, op := Go.Op.call { callee := Go.Callee.value (Go.Operand.func 34), args := #[Go.Operand.tmp 47, Go.Operand.tmp 48], argTypes := #[24, 3] }, type := 3, pos := "ref.go:172", after := #[{ on := 2, ground := Go.Ground.data }, { on := 3, ground := Go.Ground.data }], guard := none }) rfl (fun K hK => ?_) AllReadyH.nil
          go_simp
          go_at_call 34
          refine (rref_any h v A c _).mono ?_
          rintro e w' ⟨rfl, hb⟩
          rw [hri]
          have hB0_ : Below w5.heap.size w5 w' := then_s (below_alloc w5 (.cells #[.int .u8 x] 5)).drew hb
          have hbc : w'.cell? ⟨w5.heap.size, 0, none⟩ = some (.int .u8 x) := cell_later hb (cell_later (Below.refl _ _).drew (by rw [(Lies.new w5 5 #[.int .u8 x]).cell]; rfl))
          refine hK.out _ _ ?_ (fun hH3 => ?_)
          · exact ⟨cell_later hb hH2.1, cell_later hb hH2.2.1, cell_later hb hH2.2.2.1, cell_later hb hH2.2.2.2⟩
          clear hK K
          try simp only [Act.put, List.setIfInBounds_toArray, List.set_cons_zero, List.set_cons_succ]
          clear hb
          refine wpAnyH_take (i := 18) (oi := { dst := some 63, op := Go.Op.indexAddr 22 (Go.Operand.tmp 46) (Go.Operand.tmp 49), type := 0, pos := "ref.go:172", after := #[{ on := 1, ground := Go.Ground.data }, { on := 4, ground := Go.Ground.data }, { on := 0, ground := Go.Ground.phase }, { on := 1, ground := Go.Ground.phase }, { on := 2, ground := Go.Ground.phase }, { on := 3, ground := Go.Ground.phase }, { on := 4, ground := Go.Ground.phase }, { on := 5, ground := Go.Ground.phase }, { on := 6, ground := Go.Ground.phase }, { on := 7, ground := Go.Ground.phase }, { on := 8, ground := Go.Ground.phase }, { on := 9, ground := Go.Ground.phase }, { on := 10, ground := Go.Ground.phase }, { on := 11, ground := Go.Ground.phase }, { on := 12, ground := Go.Ground.phase }, { on := 13, ground := Go.Ground.phase }, { on := 14, ground := Go.Ground.phase }, { on := 15, ground := Go.Ground.phase }, { on := 16, ground := Go.Ground.phase }, { on := 17, ground := Go.Ground.phase }], guard := none }) (v := ?vv32) rfl (by kernel_rfl) (by kernel_rfl) (by kernel_rfl) (fun _ _ _ h => h) (Or.inl ⟨by rfl, ?hy32⟩) (by assumption) ?rr32
          case hy32 => intro w hSw; (try dsimp only at hSw); go_simp; all_goals with_reducible rfl
          try simp only [Act.put, List.setIfInBounds_toArray, List.set_cons_zero, List.set_cons_succ]
          refine wpAnyH_take (i := 19) (oi := { dst := some 64, op := Go.Op.fieldAddr 46 (Go.Operand.tmp 63) 3, type := 0, pos := "ref.go:172", after := #[{ on := 18, ground := Go.Ground.data }, { on := 0, ground := Go.Ground.phase }, { on := 1, ground := Go.Ground.phase }, { on := 2, ground := Go.Ground.phase }, { on := 3, ground := Go.Ground.phase }, { on := 4, ground := Go.Ground.phase }, { on := 5, ground := Go.Ground.phase }, { on := 6, ground := Go.Ground.phase }, { on := 7, ground := Go.Ground.phase }, { on := 8, ground := Go.Ground.phase }, { on := 9, ground := Go.Ground.phase }, { on := 10, ground := Go.Ground.phase }, { on := 11, ground := Go.Ground.phase }, { on := 12, ground := Go.Ground.phase }, { on := 13, ground := Go.Ground.phase }, { on := 14, ground := Go.Ground.phase }, { on := 15, ground := Go.Ground.phase }, { on := 16, ground := Go.Ground.phase }, { on := 17, ground := Go.Ground.phase }], guard := none }) (v := ?vv33) rfl (by kernel_rfl) (by kernel_rfl) (by kernel_rfl) (fun _ _ _ h => h) (Or.inl ⟨by rfl, ?hy33⟩) (by assumption) ?rr33
          case hy33 => intro w hSw; (try dsimp only at hSw); go_simp; all_goals with_reducible rfl
          try simp only [Act.put, List.setIfInBounds_toArray, List.set_cons_zero, List.set_cons_succ]
          refine wpAnyH_ready (rs := [20]) (by kernel_rfl) (by simp) ?_
          refine AllReadyH.cons (i := 20) (o := { dst := none, op := Go.Op.store 9 (Go.Operand.tmp 64) (Go.Operand.tmp 62), type := 0, pos := "ref.go:172", after := #[{ on := 19, ground := Go.Ground.data }, { on := 17, ground := Go.Ground.data }, { on := 4, ground := Go.Ground.chain }, { on := 0, ground := Go.Ground.phase }, { on := 1, ground := Go.Ground.phase }, { on := 2, ground := Go.Ground.phase }, { on := 3, ground := Go.Ground.phase }, { on := 4, ground := Go.Ground.phase }, { on := 5, ground := Go.Ground.phase }, { on := 6, ground := Go.Ground.phase }, { on := 7, ground := Go.Ground.phase }, { on := 8, ground := Go.Ground.phase }, { on := 9, ground := Go.Ground.phase }, { on := 10, ground := Go.Ground.phase }, { on := 11, ground := Go.Ground.phase }, { on := 12, ground := Go.Ground.phase }, { on := 13, ground := Go.Ground.phase }, { on := 14, ground := Go.Ground.phase }, { on := 15, ground := Go.Ground.phase }, { on := 16, ground := Go.Ground.phase }, { on := 17, ground := Go.Ground.phase }], guard := none }) rfl (fun K hK => ?_) AllReadyH.nil
          have hBf : Below w5.heap.size w5 w' := hB0_
          have hOf := HO5.out.later hBf
          have sq := (hOf.row.cellAt (i * 6 + 3) (by omega)).trans (rowOf_get ls i 3 _ HL.out (by omega))
          have sf := hOf.row.frozenAt (i * 6 + 3)
          simp only [LO.cells, List.getElem?_cons_zero, List.getElem?_cons_succ] at sq
          rw [str_set tt j hjn x]
          go_simp
          refine hK.out _ _ ?_ (fun hH4 => ?_)
          · exact ⟨cell_far hneq hH3.1, cell_far hneq hH3.2.1, cell_far hneq hH3.2.2.1, cell_far hneg hH3.2.2.2⟩
          clear hK K
          try simp only [Act.put, List.setIfInBounds_toArray, List.set_cons_zero, List.set_cons_succ]
          refine wpAnyH_done (by kernel_rfl) ?_ _
          obtain ⟨V, hV⟩ : ∃ V, V = World.setCell w' ⟨g, i * 6 + 3, none⟩ (.string (setT tt j x)) := ⟨_, rfl⟩
          rw [← hV]
          have hOV := hOf.text (s := setT tt j x) HL.out
          have hKV := (HK5.out.later hBf).far (p := ⟨g, i * 6 + 3, none⟩) (by show w.heap.size + 1 ≠ g; omega) (.string (setT tt j x))
          have hGV := (HG5.out.later hBf).far (p := ⟨g, i * 6 + 3, none⟩) (by show w3.heap.size ≠ g; omega) (.string (setT tt j x))
          have hBV := (HB5.out.trans (hBf.mono HB5.out.size)).setCell (p := ⟨g, i * 6 + 3, none⟩) (by show w.heap.size ≤ g; omega) (.string (setT tt j x))
          rw [← hV] at hOV hKV hGV hBV
          have HOV := hid hOV
          have HKV := hid hKV
          have HBV := hid hBV
          have z0 := hGV.cell 0
          have z1 := hGV.cell 1
          have z2 := hGV.cell 2
          simp only [List.getElem?_toArray, List.getElem?_cons_zero, List.getElem?_cons_succ] at z0 z1 z2
          have u0 := HKV.out.cell 0
          have uf0 := HKV.out.frozen 0
          have u1 := HKV.out.cell 1
          have uf1 := HKV.out.frozen 1
          have u2 := HKV.out.cell 2
          have uf2 := HKV.out.frozen 2
          simp only [List.getElem?_toArray, List.getElem?_cons_zero, List.getElem?_cons_succ] at u0 u1 u2
          clear hV hOV hKV hGV hBV hOf sq sf
          go_wp2_with fail
          have K0 := (((HKV.out.set_ 0 (.slice (some ⟨g, 0, none⟩) h.objs.length c3)).set_ 1 (.int .i64 h.cap)).set_ 2 (.int .i64 h.last))
          have r0 := K0.cell 0
          have r1 := K0.cell 1
          have r2 := K0.cell 2
          simp only [List.setIfInBounds_toArray, List.set_cons_zero, List.set_cons_succ, List.getElem?_toArray, List.getElem?_cons_zero, List.getElem?_cons_succ] at r0 r1 r2
          refine bodyPost_ret (v := .tuple #[.agg #[.slice (some ⟨g, 0, none⟩) h.objs.length c3, .int .i64 h.cap, .int .i64 h.last], .int .i64 0]) (by simp [results, Try.results25, go_sem, r0, r1, r2]) rfl ?_
          rw [EE.out, ER.out]
          refine ⟨some ⟨g, 0, none⟩, c3, by simp, own_obs (c := c3) (ls := ls.set i ⟨{ l.o with text := setT tt j x }, l.S, l.c⟩) (base := w1.heap.size) ?_ ?_, (((HBV.out).setCell (p := ⟨w.heap.size + 1, 0, none⟩) (by simp) _).setCell (p := ⟨w.heap.size + 1, 1, none⟩) (by simp) _).setCell (p := ⟨w.heap.size + 1, 2, none⟩) (by simp) _⟩
          · exact ((HOV.out.low (p := ⟨w.heap.size + 1, 0, none⟩) (by simp; omega) _).low (p := ⟨w.heap.size + 1, 1, none⟩) (by simp; omega) _).low (p := ⟨w.heap.size + 1, 2, none⟩) (by simp; omega) _
          · show List.map _ _ = h.objs.set i _
            rw [List.map_set, HLS.out, HLO.out, HTT.out]
    · have hcase : x < 0 ∨ (0 ≤ x ∧ 255 < x) := by omega
      have EE : Hid (sbE h v k x = 32) := by show _ = _; unfold sbE; rw [if_pos e0, if_neg hx]
      have ER : Hid (sbR h v k x = h) := by show _ = _; unfold sbR; rw [EE.out, if_neg (by decide)]; unfold unH; rw [if_neg (by decide)]
      have E0 := hid e0
      clear e0 hx
      rcases hcase with hx1 | ⟨hx1, hx2⟩
      all_goals
        go_enter Try.func25, Try.ntmps25
        go_wp2_with fail
        refine (wrong_any h v 1 k (.inr rfl) A c _ (HS.out.below HB0.out) HF.out).mono ?_
        rintro e w1 ⟨rfl, hb⟩
        rw [E0.out]
        have HB1 := hid (HB0.out.trans (hb.mono HB0.out.size))
        have HX1 := hid (HX0.out.later hb)
        have HK1 := hid (HK0.out.later hb)
        clear hb
        have x0 := HX1.out.cell 0
        have x1 := HX1.out.cell 1
        have x2 := HX1.out.cell 2
        simp only [List.getElem?_toArray, List.getElem?_cons_zero, List.getElem?_cons_succ] at x0 x1 x2
        have hne01 : w.heap.size ≠ w.heap.size + 1 := by omega
        have u0 := HK1.out.cell 0
        have uf0 := HK1.out.frozen 0
        have u1 := HK1.out.cell 1
        have uf1 := HK1.out.frozen 1
        have u2 := HK1.out.cell 2
        have uf2 := HK1.out.frozen 2
        simp only [List.getElem?_toArray, List.getElem?_cons_zero, List.getElem?_cons_succ] at u0 u1 u2
        go_wp2_with fail
        have K0 := (((HK1.out.set_ 0 (.slice A h.objs.length c)).set_ 1 (.int .i64 h.cap)).set_ 2 (.int .i64 h.last))
        have r0 := K0.cell 0
        have r1 := K0.cell 1
        have r2 := K0.cell 2
        simp only [List.setIfInBounds_toArray, List.set_cons_zero, List.set_cons_succ, List.getElem?_toArray, List.getElem?_cons_zero, List.getElem?_cons_succ] at r0 r1 r2
        refine bodyPost_ret (v := .tuple #[.agg #[.slice A h.objs.length c, .int .i64 h.cap, .int .i64 h.last], .int .i64 32]) (by simp [results, Try.results25, go_sem, r0, r1, r2]) rfl ?_
        rw [EE.out, ER.out]
        refine ⟨A, c, rfl, HS.out.below ?_, ?_⟩ <;> exact (((HB1.out).setCell (p := ⟨w.heap.size + 1, 0, none⟩) (by simp) _).setCell (p := ⟨w.heap.size + 1, 1, none⟩) (by simp) _).setCell (p := ⟨w.heap.size + 1, 2, none⟩) (by simp) _
  · have EE : Hid (sbE h v k x = plE h v 1 k) := by show _ = _; unfold sbE; rw [if_neg e0]
    have ER : Hid (sbR h v k x = unH h (plE h v 1 k)) := by show _ = _; unfold sbR; rw [EE.out, if_neg e0]
    by_cases e1 : plE h v 1 k = 1
    · have EU : Hid (unH h (plE h v 1 k) = zeroH) := by show _ = _; unfold unH; rw [if_pos e1]
      have E1 := hid e1
      clear e0 e1
      go_enter Try.func25, Try.ntmps25
      go_wp2_with fail
      refine (wrong_any h v 1 k (.inr rfl) A c _ (HS.out.below HB0.out) HF.out).mono ?_
      rintro e w1 ⟨rfl, hb⟩
      rw [E1.out]
      have HB1 := hid (HB0.out.trans (hb.mono HB0.out.size))
      have HX1 := hid (HX0.out.later hb)
      have HK1 := hid (HK0.out.later hb)
      clear hb
      have x0 := HX1.out.cell 0
      have x1 := HX1.out.cell 1
      have x2 := HX1.out.cell 2
      simp only [List.getElem?_toArray, List.getElem?_cons_zero, List.getElem?_cons_succ] at x0 x1 x2
      have hne01 : w.heap.size ≠ w.heap.size + 1 := by omega
      have u0 := HK1.out.cell 0
      have uf0 := HK1.out.frozen 0
      have u1 := HK1.out.cell 1
      have uf1 := HK1.out.frozen 1
      have u2 := HK1.out.cell 2
      have uf2 := HK1.out.frozen 2
      simp only [List.getElem?_toArray, List.getElem?_cons_zero, List.getElem?_cons_succ] at u0 u1 u2
      go_wp2_with fail
      have K0 := (((HK1.out.set_ 0 (.slice none 0 0)).set_ 1 (.int .i64 0)).set_ 2 (.int .i64 0))
      have r0 := K0.cell 0
      have r1 := K0.cell 1
      have r2 := K0.cell 2
      simp only [List.setIfInBounds_toArray, List.set_cons_zero, List.set_cons_succ, List.getElem?_toArray, List.getElem?_cons_zero, List.getElem?_cons_succ] at r0 r1 r2
      refine bodyPost_ret (v := .tuple #[.agg #[.slice none 0 0, .int .i64 0, .int .i64 0], .int .i64 1]) (by simp [results, Try.results25, go_sem, r0, r1, r2]) rfl ?_
      rw [EE.out, ER.out, EU.out, E1.out]
      exact ⟨none, 0, rfl, ObsR.nil _, (((HB1.out).setCell (p := ⟨w.heap.size + 1, 0, none⟩) (by simp) _).setCell (p := ⟨w.heap.size + 1, 1, none⟩) (by simp) _).setCell (p := ⟨w.heap.size + 1, 2, none⟩) (by simp) _⟩
    · have EU : Hid (unH h (plE h v 1 k) = h) := by show _ = _; unfold unH; rw [if_neg e1]
      have e2 : (plE h v 1 k == 1) = false := by simpa using e1
      have e3 : (plE h v 1 k == 0) = false := by simpa using e0
      have e4 : (plE h v 1 k != 0) = true := by simpa using e0
      clear e0 e1
      go_enter Try.func25, Try.ntmps25
      go_wp2_with fail
      refine (wrong_any h v 1 k (.inr rfl) A c _ (HS.out.below HB0.out) HF.out).mono ?_
      rintro e w1 ⟨rfl, hb⟩
      have HB1 := hid (HB0.out.trans (hb.mono HB0.out.size))
      have HX1 := hid (HX0.out.later hb)
      have HK1 := hid (HK0.out.later hb)
      clear hb
      have x0 := HX1.out.cell 0
      have x1 := HX1.out.cell 1
      have x2 := HX1.out.cell 2
      simp only [List.getElem?_toArray, List.getElem?_cons_zero, List.getElem?_cons_succ] at x0 x1 x2
      have hne01 : w.heap.size ≠ w.heap.size + 1 := by omega
      have u0 := HK1.out.cell 0
      have uf0 := HK1.out.frozen 0
      have u1 := HK1.out.cell 1
      have uf1 := HK1.out.frozen 1
      have u2 := HK1.out.cell 2
      have uf2 := HK1.out.frozen 2
      simp only [List.getElem?_toArray, List.getElem?_cons_zero, List.getElem?_cons_succ] at u0 u1 u2
      go_wp2_with fail
      have K0 := (((HK1.out.set_ 0 (.slice A h.objs.length c)).set_ 1 (.int .i64 h.cap)).set_ 2 (.int .i64 h.last))
      have r0 := K0.cell 0
      have r1 := K0.cell 1
      have r2 := K0.cell 2
      simp only [List.setIfInBounds_toArray, List.set_cons_zero, List.set_cons_succ, List.getElem?_toArray, List.getElem?_cons_zero, List.getElem?_cons_succ] at r0 r1 r2
      refine bodyPost_ret (v := .tuple #[.agg #[.slice A h.objs.length c, .int .i64 h.cap, .int .i64 h.last], .int .i64 (plE h v 1 k)]) (by simp [results, Try.results25, go_sem, r0, r1, r2]) rfl ?_
      rw [EE.out, ER.out, EU.out]
      refine ⟨A, c, rfl, HS.out.below ?_, ?_⟩ <;> exact (((HB1.out).setCell (p := ⟨w.heap.size + 1, 0, none⟩) (by simp) _).setCell (p := ⟨w.heap.size + 1, 1, none⟩) (by simp) _).setCell (p := ⟨w.heap.size + 1, 2, none⟩) (by simp) _
end Go.Proofs.Ytelljlmjhnjpiaa
