/- The document's SetByte walked. The document's word on classes: a dictionary's pairs, what is a class. -/
import Derived.Test.YtnilempeldlieaaGreatJ04
import Derived.Test.YtnilempeldlieaaGreatJ08
import Derived.Test.YtnilempeldlieaaGreatJ06
import Derived.Test.YtnilempeldlieaaGreatJ07
import Derived.Test.YtnilempeldlieaaGreatJ10
namespace Go.Proofs.YtnilempeldlieaaGreat
abbrev oRSB0 : Oper := ⟨some 56, .convert 117 9 (.tmp 55), 9, "ref.go:172", #[⟨10, .data⟩], none⟩
abbrev oRSB1 : Oper := ⟨some 57, .binOp .add 9 (.tmp 52) (.tmp 56) 9, 9, "ref.go:172", #[⟨7, .data⟩, ⟨11, .data⟩], none⟩
abbrev oRSB2 : Oper := ⟨some 62, .binOp .add 9 (.tmp 57) (.tmp 61) 9, 9, "ref.go:172", #[⟨12, .data⟩, ⟨16, .data⟩], none⟩
abbrev oRSB3 : Oper := ⟨some 63, .indexAddr 22 (.tmp 46) (.tmp 49), 0, "ref.go:172", #[⟨1, .data⟩, ⟨4, .data⟩, ⟨0, .phase⟩, ⟨1, .phase⟩, ⟨2, .phase⟩, ⟨3, .phase⟩, ⟨4, .phase⟩, ⟨5, .phase⟩, ⟨6, .phase⟩, ⟨7, .phase⟩, ⟨8, .phase⟩, ⟨9, .phase⟩, ⟨10, .phase⟩, ⟨11, .phase⟩, ⟨12, .phase⟩, ⟨13, .phase⟩, ⟨14, .phase⟩, ⟨15, .phase⟩, ⟨16, .phase⟩, ⟨17, .phase⟩], none⟩
abbrev oRSB4 : Oper := ⟨some 64, .fieldAddr 41 (.tmp 63) 3, 0, "ref.go:172", #[⟨18, .data⟩, ⟨0, .phase⟩, ⟨1, .phase⟩, ⟨2, .phase⟩, ⟨3, .phase⟩, ⟨4, .phase⟩, ⟨5, .phase⟩, ⟨6, .phase⟩, ⟨7, .phase⟩, ⟨8, .phase⟩, ⟨9, .phase⟩, ⟨10, .phase⟩, ⟨11, .phase⟩, ⟨12, .phase⟩, ⟨13, .phase⟩, ⟨14, .phase⟩, ⟨15, .phase⟩, ⟨16, .phase⟩, ⟨17, .phase⟩], none⟩
abbrev oRSB5 : Oper := ⟨none, .store 9 (.tmp 64) (.tmp 62), 0, "ref.go:172", #[⟨19, .data⟩, ⟨17, .data⟩, ⟨4, .chain⟩, ⟨0, .phase⟩, ⟨1, .phase⟩, ⟨2, .phase⟩, ⟨3, .phase⟩, ⟨4, .phase⟩, ⟨5, .phase⟩, ⟨6, .phase⟩, ⟨7, .phase⟩, ⟨8, .phase⟩, ⟨9, .phase⟩, ⟨10, .phase⟩, ⟨11, .phase⟩, ⟨12, .phase⟩, ⟨13, .phase⟩, ⟨14, .phase⟩, ⟨15, .phase⟩, ⟨16, .phase⟩, ⟨17, .phase⟩], none⟩
open Go.RowKit
set_option maxRecDepth 100000
theorem then_s {w v w' : World} (h : Below w.heap.size w v) (hb : Below v.heap.size v w') : Below w.heap.size w w' := h.trans (hb.mono h.size)
theorem str_set (t : ByteArray) (j : Nat) (hj : j < t.size) (x : Int) : t.extract 0 j ++ ⟨#[UInt8.ofNat x.toNat]⟩ ++ t.extract (j + 1) t.size = setT t j x := by
  apply ByteArray.ext
  apply Array.toList_inj.1
  have hj2 : j < t.data.toList.length := by rw [Array.length_toList]; exact hj
  unfold setT
  simp only [ByteArray.data_append, ByteArray.data_extract, Array.toList_append, Array.toList_extract]
  rw [List.set_eq_take_append_cons_drop, if_pos hj2]
  have hs : t.size = t.data.toList.length := by rw [Array.length_toList]; rfl
  rw [hs]
  simp [List.extract, List.take_of_length_le]
theorem conv1 (W : World) (g1 : Nat) (x : Int) (h0 : 0 ≤ x) (h1 : x ≤ 255) (hc : W.cell? ⟨g1, 0, none⟩ = some (.int .u8 x)) : (convert 117 9 (.slice (some ⟨g1, 0, none⟩) 1 1)).run Tryz.prog W = .ok (.string ⟨#[UInt8.ofNat x.toNat]⟩) W := by
  have := run_convert_bytes_back (P := Tryz.prog) W 117 9 5 ⟨g1, 0, none⟩ 1 [UInt8.ofNat x.toNat] Tryz.underlying117 Tryz.underlying5 Tryz.underlying9 (fun j hj => by
    obtain rfl : j = 0 := by simp at hj; omega
    rw [Addr.add_lit, Nat.zero_add, hc]
    have hxx : (UInt8.ofNat x.toNat).toNat = x.toNat := by rw [UInt8.toNat_ofNat']; omega
    simp [hxx]
    omega)
  simpa using this
set_option maxHeartbeats 1500000 in
theorem rsetbyte_own13 (h : Hp) (v k x : Int) (A : Option Addr) (c : Nat) (w : World) (hs : ObsR w A h.objs) (fit : h.Fit) :
    Calls Tryz.prog 82 #[.agg #[.slice A h.objs.length c, .int .i64 h.cap, .int .i64 h.last], .int .i64 v, .int .i64 k, .int .i64 x] w (HeapOw13 w (sbR h v k x) (sbE h v k x)) := by
  have HB0 := hid (below_alloc2 w (.cells #[Value.slice A h.objs.length c, Value.int .i64 h.cap, Value.int .i64 h.last] 24) (.cells #[.slice none 0 0, .int .i64 0, .int .i64 0] 24))
  have HX0 := hid ((Lies.new w 24 #[Value.slice A h.objs.length c, Value.int .i64 h.cap, Value.int .i64 h.last]).alloc (.cells #[.slice none 0 0, .int .i64 0, .int .i64 0] 24))
  have HK0 : Hid (Lies ((w.alloc (.cells #[Value.slice A h.objs.length c, Value.int .i64 h.cap, Value.int .i64 h.last] 24)).alloc (.cells #[.slice none 0 0, .int .i64 0, .int .i64 0] 24)) (w.heap.size + 1) 24 #[.slice none 0 0, .int .i64 0, .int .i64 0]) := by
    have := Lies.new (w.alloc (.cells #[Value.slice A h.objs.length c, Value.int .i64 h.cap, Value.int .i64 h.last] 24)) 24 #[.slice none 0 0, .int .i64 0, .int .i64 0]
    simpa [Hid] using this
  have HS := hid hs
  have HF := hid fit
  clear hs fit
  by_cases e0 : plE h v 1 k = 0
  next =>
   by_cases hx : 0 ≤ x ∧ x ≤ 255
   next =>
    obtain ⟨hm, hr, hk, h0, h1⟩ := pl_ok e0
    obtain ⟨i, hi, hvi, ho⟩ := obAt_get hr
    obtain ⟨j, rfl⟩ : ∃ j : Nat, k = j := ⟨k.toNat, by omega⟩
    have hjn : j < (obAt h v).text.size := by unfold szO at h1; rw [if_pos rfl] at h1; omega
    obtain ⟨-, hl2, -⟩ := kind_len (ob_kind (may_all hm _ (List.mem_of_getElem? ho)))
    have hri : refI h.objs.length v = (i : Int) := by rw [refI_nonneg hr, hvi]
    have EE : Hid (sbE h v j x = 0) := by show _ = _; unfold sbE; rw [if_pos e0, if_pos hx]
    have ER : Hid (sbR h v j x = { h with objs := h.objs.set i { obAt h v with text := setT (obAt h v).text j x } }) := by
      show _ = _
      unfold sbR; rw [if_pos EE.out]; unfold sbH; rw [hvi]; rfl
    have HO := hid ho
    have E0 := hid e0
    have HM := hid hm
    obtain ⟨hx0, hx1⟩ := hx
    obtain ⟨tt, htt⟩ : ∃ tt, tt = (obAt h v).text := ⟨_, rfl⟩
    have HTT := hid htt
    rw [← htt] at hjn hl2
    have hwx : IntKind.u8.wrap x = x := IntWalk.u8_in _ ⟨hx0, hx1⟩
    have hilen : (i : Int) < h.objs.length := by omega
    have hjt : (j : Int) < tt.size := by omega
    have hjle : j ≤ tt.size := by omega
    have hj1 : (0 : Int) ≤ (j : Int) + 1 := by omega
    have hj2 : (j : Int) + 1 ≤ (tt.size : Int) := by omega
    have hwr : IntKind.i64.wrap ((j : Int) + 1) = (j : Int) + 1 := by rw [IntKind.wrap_i64]; omega
    clear hm hr hk h0 h1 hvi ho e0 htt
    go_enter Tryz.func82, Tryz.ntmps82
    go_wp2_with fail
    refine (wrong_any h v 1 j (.inr rfl) A c _ (HS.out.below HB0.out) HF.out).mono ?_
    rintro e w1 ⟨rfl, hb⟩
    rw [E0.out]
    have HB1 := hid (HB0.out.trans (hb.mono HB0.out.size))
    have HX1 := hid (HX0.out.later hb)
    have HK1 := hid (HK0.out.later hb)
    clear hb
    obtain ⟨x0, x1, x2⟩ := HX1.out.c3
    have hne01 : w.heap.size ≠ w.heap.size + 1 := by omega
    go_wp2_with fail
    refine (copy_h h A c _ (HS.out.below HB1.out) HM.out).mono ?_
    rintro e w3 ⟨A3, c3, ls, rfl, hls, hown, hb3⟩
    have HB3 := hid (HB1.out.trans (hb3.mono HB1.out.size))
    have HK3 := hid (HK1.out.later hb3)
    have HX3 := hid (HX1.out.later hb3)
    have hw1 : w.heap.size + 1 < w1.heap.size := HK1.out.lt
    have hw13 : w1.heap.size ≤ w3.heap.size := hb3.size
    have hin : i < ls.length := by have := congrArg List.length hls; simp at this; omega
    obtain ⟨l, hl⟩ : ∃ l, ls[i]? = some l := ⟨_, List.getElem?_eq_getElem hin⟩
    have hlo : l.o = obAt h v := by
      have e1 : (ls.map (·.o))[i]? = some l.o := by rw [List.getElem?_map, hl]; rfl
      rw [hls, HO.out] at e1
      exact (Option.some.inj e1).symm
    obtain ⟨g, cg, hvv, hg0, hg1⟩ := hown.row.form (by omega)
    simp only [Value.slice.injEq, true_and] at hvv
    obtain ⟨rfl, rfl⟩ := hvv
    have HA3 := hid (below_alloc w3 (.cells #[Value.slice (some ⟨g, 0, none⟩) h.objs.length c3, Value.int .i64 h.cap, Value.int .i64 h.last] 24))
    have HOA := hid (hown.later HA3.out)
    have q3 := (HOA.out.row.cellAt (i * 6 + 3) (by omega)).trans (rowOf_get ls i 3 _ hl (by omega))
    simp only [LO.cells, List.getElem?_cons_zero, List.getElem?_cons_succ] at q3
    rw [hlo, ← HTT.out] at q3
    have HLS := hid hls
    have HL := hid hl
    have HLO := hid hlo
    clear hls hl hlo hown hb3 x0 x1 x2
    obtain ⟨W, hW⟩ : ∃ W, W = w3.alloc (.cells #[Value.slice (some ⟨g, 0, none⟩) h.objs.length c3, Value.int .i64 h.cap, Value.int .i64 h.last] 24) := ⟨_, rfl⟩
    have hG : Lies W w3.heap.size 24 #[Value.slice (some ⟨g, 0, none⟩) h.objs.length c3, Value.int .i64 h.cap, Value.int .i64 h.last] := by rw [hW]; exact Lies.new _ _ _
    rw [← hW] at HA3 HOA q3
    have HG := hid hG
    have HXW := hid (HX3.out.later HA3.out)
    have HKW := hid (HK3.out.later HA3.out)
    have HBW := hid (HB3.out.trans (HA3.out.mono HB3.out.size))
    go_upto_region 9 with fail
    rw [← hW]
    clear hW hG
    have x0 := HXW.out.cell 0
    have x1 := HXW.out.cell 1
    have x2 := HXW.out.cell 2
    have z0 := HG.out.cell 0
    simp only [List.getElem?_toArray, List.getElem?_cons_zero, List.getElem?_cons_succ] at x0 x1 x2 z0
    refine wp_region_held_drew (S := (fun w' => w'.cell? ⟨w.heap.size, 0, none⟩ = some (.slice A h.objs.length c) ∧ w'.cell? ⟨w.heap.size, 1, none⟩ = some (.int .i64 h.cap) ∧ w'.cell? ⟨w.heap.size, 2, none⟩ = some (.int .i64 h.last) ∧ w'.cell? ⟨w3.heap.size, 0, none⟩ = some (.slice (some ⟨g, 0, none⟩) h.objs.length c3) ∧ w'.cell? ⟨g, i * 6 + 3, none⟩ = some (.string tt) ∧ Below W.heap.size W w')) (by kernel_rfl) ?_ (fun hHeld => ?_)
    next =>
     exact ⟨x0, x1, x2, z0, q3, (Below.refl _ _).drew⟩
    refine tkJ 0 ⟨some 37, .fieldAddr 24 (.tmp 11) 0, 0, "ref.go:171", #[], none⟩ ?_
    refine tkJ 1 ⟨some 38, .load 22 (.tmp 37), 22, "ref.go:171", #[⟨0, .data⟩], none⟩ ?_
    refine tkJ 2 ⟨some 39, .load 24 (.tmp 4), 24, "ref.go:171", #[], none⟩ ?_
    refine tkJ 3 ⟨some 40, .move (.tmp 1), 3, "ref.go:171", #[], none⟩ ?_
    refine rdJ 4 ⟨some 41, .call { callee := .value (.func 32), args := #[.tmp 39, .tmp 40], argTypes := #[24, 3] }, 3, "ref.go:171", #[⟨2, .data⟩, ⟨3, .data⟩], none⟩ fun K hK => ?_
    go_simp
    go_at_call 32
    refine (rref_any h v A c _).mono ?_
    rintro e w' ⟨rfl, hb⟩
    rw [hri]
    refine hK.out _ _ ?_ (fun hHeld => ?_)
    next =>
     exact ⟨cell_later hb x0, cell_later hb x1, cell_later hb x2, cell_later hb z0, cell_later hb q3, then_s (Below.refl _ _).drew hb⟩
    clear hK K
    try simp only [apt12]
    have hH1 := hHeld
    clear hHeld hb
    have hHeld := hH1
    refine tkJ 5 ⟨some 42, .indexAddr 22 (.tmp 38) (.tmp 41), 0, "ref.go:171", #[⟨1, .data⟩, ⟨4, .data⟩], none⟩ ?_
    refine tkJ 6 ⟨some 43, .fieldAddr 41 (.tmp 42) 3, 0, "ref.go:171", #[⟨5, .data⟩], none⟩ ?_
    refine tkJ 7 ⟨some 44, .load 9 (.tmp 43), 9, "ref.go:171", #[⟨6, .data⟩], none⟩ ?_
    refine tkJ 8 ⟨some 12, .assign (.tmp 44), 9, "ref.go:171", #[⟨7, .data⟩, ⟨4, .chain⟩, ⟨0, .phase⟩, ⟨1, .phase⟩, ⟨2, .phase⟩, ⟨3, .phase⟩, ⟨4, .phase⟩, ⟨5, .phase⟩, ⟨6, .phase⟩, ⟨7, .phase⟩], none⟩ ?_
    refine wpAnyH_done (by kernel_rfl) ?_ _
    have hHeldB := hHeld.2.2.2.2.2
    rename World => w5
    have HB5 := hid (HBW.out.trans (hHeldB.mono HBW.out.size))
    have HX5 := hid (HXW.out.later hHeldB)
    have HK5 := hid (HKW.out.later hHeldB)
    have HG5 := hid (HG.out.later hHeldB)
    have HO5 := hid (HOA.out.later hHeldB)
    have hz35 : w3.heap.size < w5.heap.size := HG5.out.lt
    clear hHeld hHeldB hH1 x0 x1 x2 z0 q3
    have x0 := HX5.out.cell 0
    have x1 := HX5.out.cell 1
    have x2 := HX5.out.cell 2
    have z0 := HG5.out.cell 0
    simp only [List.getElem?_toArray, List.getElem?_cons_zero, List.getElem?_cons_succ] at x0 x1 x2 z0
    go_wp2_with fail
    have hcc1 : ¬ 9223372036854775807 < j + 1 := by omega
    have hcc2 : ¬ 9223372036854775807 < j + 1 + (tt.size - (j + 1)) := by omega
    have hneq : w.heap.size ≠ g := by omega
    have hneg : w3.heap.size ≠ g := by omega
    refine wp_region_held_drew (S := (fun w' => w'.cell? ⟨w.heap.size, 0, none⟩ = some (.slice A h.objs.length c) ∧ w'.cell? ⟨w.heap.size, 1, none⟩ = some (.int .i64 h.cap) ∧ w'.cell? ⟨w.heap.size, 2, none⟩ = some (.int .i64 h.last) ∧ w'.cell? ⟨w3.heap.size, 0, none⟩ = some (.slice (some ⟨g, 0, none⟩) h.objs.length c3))) (by kernel_rfl) ?_ (fun hH0 => ?_)
    next =>
     exact ⟨x0, x1, x2, z0⟩
    refine tkJ 0 ⟨some 45, .fieldAddr 24 (.tmp 11) 0, 0, "ref.go:172", #[], none⟩ ?_
    refine tkJ 1 ⟨some 46, .load 22 (.tmp 45), 22, "ref.go:172", #[⟨0, .data⟩], none⟩ ?_
    refine tkJ 2 ⟨some 47, .load 24 (.tmp 4), 24, "ref.go:172", #[], none⟩ ?_
    refine tkJ 3 ⟨some 48, .move (.tmp 1), 3, "ref.go:172", #[], none⟩ ?_
    refine tkJ 5 ⟨some 50, .move (.tmp 12), 9, "ref.go:172", #[], none⟩ ?_
    refine tkJ 6 ⟨some 51, .move (.tmp 2), 3, "ref.go:172", #[], none⟩ ?_
    refine tkJ 7 ⟨some 52, .slice 9 (.tmp 50) none (some (.tmp 51)) none, 9, "ref.go:172", #[⟨5, .data⟩, ⟨6, .data⟩], none⟩ ?_
    refine tkJ 8 ⟨some 53, .move (.tmp 3), 3, "ref.go:172", #[], none⟩ ?_
    refine tkJ 9 ⟨some 54, .convert 3 5 (.tmp 53), 5, "ref.go:172", #[⟨8, .data⟩], none⟩ ?_
    refine tkJ 13 ⟨some 58, .move (.tmp 12), 9, "ref.go:172", #[], none⟩ ?_
    refine tkJ 14 ⟨some 59, .move (.tmp 2), 3, "ref.go:172", #[], none⟩ ?_
    refine tkJ 15 ⟨some 60, .binOp .add 3 (.tmp 59) (.const (Go.Value.int .i64 1)) 3, 3, "ref.go:172", #[⟨14, .data⟩], none⟩ ?_
    refine tkJ 16 ⟨some 61, .slice 9 (.tmp 58) (some (.tmp 60)) none none, 9, "ref.go:172", #[⟨13, .data⟩, ⟨15, .data⟩], none⟩ ?_
    refine wpAnyH_ready (rs := [4, 10]) (by kernel_rfl) (by simp) ?_
    refine AllReadyH.cons (i := 4) (o := ⟨some 49, .call { callee := .value (.func 32), args := #[.tmp 47, .tmp 48], argTypes := #[24, 3] }, 3, "ref.go:172", #[⟨2, .data⟩, ⟨3, .data⟩], none⟩) rfl (fun K hK => ?_) (AllReadyH.cons (i := 10) (o := ⟨some 55, .buildSlice 117 1 #[(0, .tmp 54)], 117, "ref.go:172", #[⟨9, .data⟩], none⟩) rfl (fun K hK => ?_) AllReadyH.nil)
    next =>
     go_simp
     go_at_call 32
     refine (rref_any h v A c _).mono ?_
     rintro e w' ⟨rfl, hb⟩
     rw [hri]
     have hB0_ : Below w5.heap.size w5 w' := then_s (Below.refl _ _).drew hb
     refine hK.out _ _ ?_ (fun hH1 => ?_)
     next =>
      exact ⟨cell_later hb hH0.1, cell_later hb hH0.2.1, cell_later hb hH0.2.2.1, cell_later hb hH0.2.2.2⟩
     clear hK K
     try simp only [apt12]
     clear hb
     refine rdJ 10 ⟨some 55, .buildSlice 117 1 #[(0, .tmp 54)], 117, "ref.go:172", #[⟨9, .data⟩], none⟩ fun K hK => ?_
     go_simp
     refine hK.out _ _ ?_ (fun hH2 => ?_)
     next =>
      exact ⟨cell_old hH1.1, cell_old hH1.2.1, cell_old hH1.2.2.1, cell_old hH1.2.2.2⟩
     clear hK K
     try simp only [apt12]
     refine rdJ 11 oRSB0 fun K hK => ?_
     have hcv := conv1 (w'.alloc (.cells #[.int .u8 x] 5)) w'.heap.size x hx0 hx1 (by rw [(Lies.new w' 5 #[.int .u8 x]).cell]; rfl)
     go_simp
     refine hK.out _ _ ?_ (fun hH3 => ?_)
     next =>
      exact hH2
     clear hK K
     try simp only [apt12]
     refine tkJ 12 oRSB1 ?_
     refine tkJ 17 oRSB2 ?_
     refine tkJ 18 oRSB3 ?_
     refine tkJ 19 oRSB4 ?_
     refine rdJ 20 oRSB5 fun K hK => ?_
     have hBf : Below w5.heap.size w5 (w'.alloc (.cells #[.int .u8 x] 5)) := then_s hB0_ (below_alloc _ _)
     have hOf := HO5.out.later hBf
     have sq := (hOf.row.cellAt (i * 6 + 3) (by omega)).trans (rowOf_get ls i 3 _ HL.out (by omega))
     have sf := hOf.row.frozenAt (i * 6 + 3)
     simp only [LO.cells, List.getElem?_cons_zero, List.getElem?_cons_succ] at sq
     rw [str_set tt j hjn x]
     go_simp
     refine hK.out _ _ ?_ (fun hH4 => ?_)
     next =>
      exact ⟨cell_far hneq hH3.1, cell_far hneq hH3.2.1, cell_far hneq hH3.2.2.1, cell_far hneg hH3.2.2.2⟩
     clear hK K
     try simp only [apt12]
     refine wpAnyH_done (by kernel_rfl) ?_ _
     obtain ⟨V, hV⟩ : ∃ V, V = World.setCell (w'.alloc (.cells #[.int .u8 x] 5)) ⟨g, i * 6 + 3, none⟩ (.string (setT tt j x)) := ⟨_, rfl⟩
     rw [← hV]
     have hOV := hOf.text (s := setT tt j x) HL.out
     have hKV := (HK5.out.later hBf).far (p := ⟨g, i * 6 + 3, none⟩) (by show w.heap.size + 1 ≠ g; omega) (.string (setT tt j x))
     have hGV := (HG5.out.later hBf).far (p := ⟨g, i * 6 + 3, none⟩) (by show w3.heap.size ≠ g; omega) (.string (setT tt j x))
     have hBV := (HB5.out.trans (hBf.mono HB5.out.size)).setCell (p := ⟨g, i * 6 + 3, none⟩) (by show w.heap.size ≤ g; omega) (.string (setT tt j x))
     rw [← hV] at hOV hKV hGV hBV
     have HOV := hid hOV
     have HKV := hid hKV
     have HBV := hid hBV
     obtain ⟨z0, z1, z2⟩ := hGV.c3
     obtain ⟨u0, u1, u2⟩ := HKV.out.c3
     obtain ⟨uf0, uf1, uf2⟩ := HKV.out.f3
     clear hV hOV hKV hGV hBV hOf sq sf
     go_wp2_with fail
     have K0 := (((HKV.out.set_ 0 (.slice (some ⟨g, 0, none⟩) h.objs.length c3)).set_ 1 (.int .i64 h.cap)).set_ 2 (.int .i64 h.last))
     have r0 := K0.cell 0
     have r1 := K0.cell 1
     have r2 := K0.cell 2
     simp only [List.setIfInBounds_toArray, List.set_cons_zero, List.set_cons_succ, List.getElem?_toArray, List.getElem?_cons_zero, List.getElem?_cons_succ] at r0 r1 r2
     refine bodyPost_ret (v := .tuple #[.agg #[.slice (some ⟨g, 0, none⟩) h.objs.length c3, .int .i64 h.cap, .int .i64 h.last], .int .i64 0]) (by simp [results, Tryz.results82, go_sem, r0, r1, r2]) rfl ?_
     rw [EE.out, ER.out]
     refine of_own13 (A := some ⟨g, 0, none⟩) (c := c3) (ls := ls.set i ⟨{ l.o with text := setT tt j x }, l.S, l.c⟩) (base := w1.heap.size) (by simp) ?_ ?_ ((((HBV.out).setCell (p := ⟨w.heap.size + 1, 0, none⟩) (by simp) _).setCell (p := ⟨w.heap.size + 1, 1, none⟩) (by simp) _).setCell (p := ⟨w.heap.size + 1, 2, none⟩) (by simp) _) HB1.out.size
     next =>
      exact ((HOV.out.low (p := ⟨w.heap.size + 1, 0, none⟩) (by simp; omega) _).low (p := ⟨w.heap.size + 1, 1, none⟩) (by simp; omega) _).low (p := ⟨w.heap.size + 1, 2, none⟩) (by simp; omega) _
     next =>
      show List.map _ _ = h.objs.set i _
      rw [List.map_set, HLS.out, HLO.out, HTT.out]
    next =>
     go_simp
     refine hK.out _ _ ?_ (fun hH1 => ?_)
     next =>
      exact ⟨cell_old hH0.1, cell_old hH0.2.1, cell_old hH0.2.2.1, cell_old hH0.2.2.2⟩
     clear hK K
     try simp only [apt12]
     refine wpAnyH_ready (rs := [4, 11]) (by kernel_rfl) (by simp) ?_
     refine AllReadyH.cons (i := 4) (o := ⟨some 49, .call { callee := .value (.func 32), args := #[.tmp 47, .tmp 48], argTypes := #[24, 3] }, 3, "ref.go:172", #[⟨2, .data⟩, ⟨3, .data⟩], none⟩) rfl (fun K hK => ?_) (AllReadyH.cons (i := 11) (o := ⟨some 56, .convert 117 9 (.tmp 55), 9, "ref.go:172", #[⟨10, .data⟩], none⟩) rfl (fun K hK => ?_) AllReadyH.nil)
     next =>
      go_simp
      go_at_call 32
      refine (rref_any h v A c _).mono ?_
      rintro e w' ⟨rfl, hb⟩
      rw [hri]
      have hB0_ : Below w5.heap.size w5 w' := then_s (below_alloc w5 (.cells #[.int .u8 x] 5)).drew hb
      have hbc : w'.cell? ⟨w5.heap.size, 0, none⟩ = some (.int .u8 x) := cell_later hb (cell_later (Below.refl _ _).drew (by rw [(Lies.new w5 5 #[.int .u8 x]).cell]; rfl))
      refine hK.out _ _ ?_ (fun hH2 => ?_)
      next =>
       exact ⟨cell_later hb hH1.1, cell_later hb hH1.2.1, cell_later hb hH1.2.2.1, cell_later hb hH1.2.2.2⟩
      clear hK K
      try simp only [apt12]
      clear hb
      refine rdJ 11 oRSB0 fun K hK => ?_
      have hcv := conv1 w' w5.heap.size x hx0 hx1 hbc
      go_simp
      refine hK.out _ _ ?_ (fun hH3 => ?_)
      next =>
       exact hH2
      clear hK K
      try simp only [apt12]
      refine tkJ 12 oRSB1 ?_
      refine tkJ 17 oRSB2 ?_
      refine tkJ 18 oRSB3 ?_
      refine tkJ 19 oRSB4 ?_
      refine rdJ 20 oRSB5 fun K hK => ?_
      have hBf : Below w5.heap.size w5 w' := hB0_
      have hOf := HO5.out.later hBf
      have sq := (hOf.row.cellAt (i * 6 + 3) (by omega)).trans (rowOf_get ls i 3 _ HL.out (by omega))
      have sf := hOf.row.frozenAt (i * 6 + 3)
      simp only [LO.cells, List.getElem?_cons_zero, List.getElem?_cons_succ] at sq
      rw [str_set tt j hjn x]
      go_simp
      refine hK.out _ _ ?_ (fun hH4 => ?_)
      next =>
       exact ⟨cell_far hneq hH3.1, cell_far hneq hH3.2.1, cell_far hneq hH3.2.2.1, cell_far hneg hH3.2.2.2⟩
      clear hK K
      try simp only [apt12]
      refine wpAnyH_done (by kernel_rfl) ?_ _
      obtain ⟨V, hV⟩ : ∃ V, V = World.setCell w' ⟨g, i * 6 + 3, none⟩ (.string (setT tt j x)) := ⟨_, rfl⟩
      rw [← hV]
      have hOV := hOf.text (s := setT tt j x) HL.out
      have hKV := (HK5.out.later hBf).far (p := ⟨g, i * 6 + 3, none⟩) (by show w.heap.size + 1 ≠ g; omega) (.string (setT tt j x))
      have hGV := (HG5.out.later hBf).far (p := ⟨g, i * 6 + 3, none⟩) (by show w3.heap.size ≠ g; omega) (.string (setT tt j x))
      have hBV := (HB5.out.trans (hBf.mono HB5.out.size)).setCell (p := ⟨g, i * 6 + 3, none⟩) (by show w.heap.size ≤ g; omega) (.string (setT tt j x))
      rw [← hV] at hOV hKV hGV hBV
      have HOV := hid hOV
      have HKV := hid hKV
      have HBV := hid hBV
      obtain ⟨z0, z1, z2⟩ := hGV.c3
      obtain ⟨u0, u1, u2⟩ := HKV.out.c3
      obtain ⟨uf0, uf1, uf2⟩ := HKV.out.f3
      clear hV hOV hKV hGV hBV hOf sq sf
      go_wp2_with fail
      have K0 := (((HKV.out.set_ 0 (.slice (some ⟨g, 0, none⟩) h.objs.length c3)).set_ 1 (.int .i64 h.cap)).set_ 2 (.int .i64 h.last))
      have r0 := K0.cell 0
      have r1 := K0.cell 1
      have r2 := K0.cell 2
      simp only [List.setIfInBounds_toArray, List.set_cons_zero, List.set_cons_succ, List.getElem?_toArray, List.getElem?_cons_zero, List.getElem?_cons_succ] at r0 r1 r2
      refine bodyPost_ret (v := .tuple #[.agg #[.slice (some ⟨g, 0, none⟩) h.objs.length c3, .int .i64 h.cap, .int .i64 h.last], .int .i64 0]) (by simp [results, Tryz.results82, go_sem, r0, r1, r2]) rfl ?_
      rw [EE.out, ER.out]
      refine of_own13 (A := some ⟨g, 0, none⟩) (c := c3) (ls := ls.set i ⟨{ l.o with text := setT tt j x }, l.S, l.c⟩) (base := w1.heap.size) (by simp) ?_ ?_ ((((HBV.out).setCell (p := ⟨w.heap.size + 1, 0, none⟩) (by simp) _).setCell (p := ⟨w.heap.size + 1, 1, none⟩) (by simp) _).setCell (p := ⟨w.heap.size + 1, 2, none⟩) (by simp) _) HB1.out.size
      next =>
       exact ((HOV.out.low (p := ⟨w.heap.size + 1, 0, none⟩) (by simp; omega) _).low (p := ⟨w.heap.size + 1, 1, none⟩) (by simp; omega) _).low (p := ⟨w.heap.size + 1, 2, none⟩) (by simp; omega) _
      next =>
       show List.map _ _ = h.objs.set i _
       rw [List.map_set, HLS.out, HLO.out, HTT.out]
     next =>
      have hcv := conv1 (w5.alloc (.cells #[.int .u8 x] 5)).drew w5.heap.size x hx0 hx1 (cell_later (Below.refl _ _).drew (by rw [(Lies.new w5 5 #[.int .u8 x]).cell]; rfl))
      go_simp
      refine hK.out _ _ ?_ (fun hH2 => ?_)
      next =>
       exact hH1
      clear hK K
      try simp only [apt12]
      refine tkJ 12 oRSB1 ?_
      refine tkJ 17 oRSB2 ?_
      refine rdJ 4 ⟨some 49, .call { callee := .value (.func 32), args := #[.tmp 47, .tmp 48], argTypes := #[24, 3] }, 3, "ref.go:172", #[⟨2, .data⟩, ⟨3, .data⟩], none⟩ fun K hK => ?_
      go_simp
      go_at_call 32
      refine (rref_any h v A c _).mono ?_
      rintro e w' ⟨rfl, hb⟩
      rw [hri]
      have hB0_ : Below w5.heap.size w5 w' := then_s (below_alloc w5 (.cells #[.int .u8 x] 5)).drew hb
      have hbc : w'.cell? ⟨w5.heap.size, 0, none⟩ = some (.int .u8 x) := cell_later hb (cell_later (Below.refl _ _).drew (by rw [(Lies.new w5 5 #[.int .u8 x]).cell]; rfl))
      refine hK.out _ _ ?_ (fun hH3 => ?_)
      next =>
       exact ⟨cell_later hb hH2.1, cell_later hb hH2.2.1, cell_later hb hH2.2.2.1, cell_later hb hH2.2.2.2⟩
      clear hK K
      try simp only [apt12]
      clear hb
      refine tkJ 18 oRSB3 ?_
      refine tkJ 19 oRSB4 ?_
      refine rdJ 20 oRSB5 fun K hK => ?_
      have hBf : Below w5.heap.size w5 w' := hB0_
      have hOf := HO5.out.later hBf
      have sq := (hOf.row.cellAt (i * 6 + 3) (by omega)).trans (rowOf_get ls i 3 _ HL.out (by omega))
      have sf := hOf.row.frozenAt (i * 6 + 3)
      simp only [LO.cells, List.getElem?_cons_zero, List.getElem?_cons_succ] at sq
      rw [str_set tt j hjn x]
      go_simp
      refine hK.out _ _ ?_ (fun hH4 => ?_)
      next =>
       exact ⟨cell_far hneq hH3.1, cell_far hneq hH3.2.1, cell_far hneq hH3.2.2.1, cell_far hneg hH3.2.2.2⟩
      clear hK K
      try simp only [apt12]
      refine wpAnyH_done (by kernel_rfl) ?_ _
      obtain ⟨V, hV⟩ : ∃ V, V = World.setCell w' ⟨g, i * 6 + 3, none⟩ (.string (setT tt j x)) := ⟨_, rfl⟩
      rw [← hV]
      have hOV := hOf.text (s := setT tt j x) HL.out
      have hKV := (HK5.out.later hBf).far (p := ⟨g, i * 6 + 3, none⟩) (by show w.heap.size + 1 ≠ g; omega) (.string (setT tt j x))
      have hGV := (HG5.out.later hBf).far (p := ⟨g, i * 6 + 3, none⟩) (by show w3.heap.size ≠ g; omega) (.string (setT tt j x))
      have hBV := (HB5.out.trans (hBf.mono HB5.out.size)).setCell (p := ⟨g, i * 6 + 3, none⟩) (by show w.heap.size ≤ g; omega) (.string (setT tt j x))
      rw [← hV] at hOV hKV hGV hBV
      have HOV := hid hOV
      have HKV := hid hKV
      have HBV := hid hBV
      obtain ⟨z0, z1, z2⟩ := hGV.c3
      obtain ⟨u0, u1, u2⟩ := HKV.out.c3
      obtain ⟨uf0, uf1, uf2⟩ := HKV.out.f3
      clear hV hOV hKV hGV hBV hOf sq sf
      go_wp2_with fail
      have K0 := (((HKV.out.set_ 0 (.slice (some ⟨g, 0, none⟩) h.objs.length c3)).set_ 1 (.int .i64 h.cap)).set_ 2 (.int .i64 h.last))
      have r0 := K0.cell 0
      have r1 := K0.cell 1
      have r2 := K0.cell 2
      simp only [List.setIfInBounds_toArray, List.set_cons_zero, List.set_cons_succ, List.getElem?_toArray, List.getElem?_cons_zero, List.getElem?_cons_succ] at r0 r1 r2
      refine bodyPost_ret (v := .tuple #[.agg #[.slice (some ⟨g, 0, none⟩) h.objs.length c3, .int .i64 h.cap, .int .i64 h.last], .int .i64 0]) (by simp [results, Tryz.results82, go_sem, r0, r1, r2]) rfl ?_
      rw [EE.out, ER.out]
      refine of_own13 (A := some ⟨g, 0, none⟩) (c := c3) (ls := ls.set i ⟨{ l.o with text := setT tt j x }, l.S, l.c⟩) (base := w1.heap.size) (by simp) ?_ ?_ ((((HBV.out).setCell (p := ⟨w.heap.size + 1, 0, none⟩) (by simp) _).setCell (p := ⟨w.heap.size + 1, 1, none⟩) (by simp) _).setCell (p := ⟨w.heap.size + 1, 2, none⟩) (by simp) _) HB1.out.size
      next =>
       exact ((HOV.out.low (p := ⟨w.heap.size + 1, 0, none⟩) (by simp; omega) _).low (p := ⟨w.heap.size + 1, 1, none⟩) (by simp; omega) _).low (p := ⟨w.heap.size + 1, 2, none⟩) (by simp; omega) _
      next =>
       show List.map _ _ = h.objs.set i _
       rw [List.map_set, HLS.out, HLO.out, HTT.out]
   next =>
    have hcase : x < 0 ∨ (0 ≤ x ∧ 255 < x) := by omega
    have EE : Hid (sbE h v k x = 32) := by show _ = _; unfold sbE; rw [if_pos e0, if_neg hx]
    have ER : Hid (sbR h v k x = h) := by show _ = _; unfold sbR; rw [EE.out, if_neg (by decide)]; unfold unH; rw [if_neg (by decide)]
    have E0 := hid e0
    clear e0 hx
    rcases hcase with hx1 | ⟨hx1, hx2⟩
    all_goals
      go_enter Tryz.func82, Tryz.ntmps82
      go_wp2_with fail
      refine (wrong_any h v 1 k (.inr rfl) A c _ (HS.out.below HB0.out) HF.out).mono ?_
      rintro e w1 ⟨rfl, hb⟩
      rw [E0.out]
      have HB1 := hid (HB0.out.trans (hb.mono HB0.out.size))
      have HX1 := hid (HX0.out.later hb)
      have HK1 := hid (HK0.out.later hb)
      clear hb
      obtain ⟨x0, x1, x2⟩ := HX1.out.c3
      have hne01 : w.heap.size ≠ w.heap.size + 1 := by omega
      obtain ⟨u0, u1, u2⟩ := HK1.out.c3
      obtain ⟨uf0, uf1, uf2⟩ := HK1.out.f3
      go_wp2_with fail
      have K0 := (((HK1.out.set_ 0 (.slice A h.objs.length c)).set_ 1 (.int .i64 h.cap)).set_ 2 (.int .i64 h.last))
      have r0 := K0.cell 0
      have r1 := K0.cell 1
      have r2 := K0.cell 2
      simp only [List.setIfInBounds_toArray, List.set_cons_zero, List.set_cons_succ, List.getElem?_toArray, List.getElem?_cons_zero, List.getElem?_cons_succ] at r0 r1 r2
      refine bodyPost_ret (v := .tuple #[.agg #[.slice A h.objs.length c, .int .i64 h.cap, .int .i64 h.last], .int .i64 32]) (by simp [results, Tryz.results82, go_sem, r0, r1, r2]) rfl ?_
      rw [EE.out, ER.out]
      refine ⟨A, c, rfl, HS.out.below ?_, ?_, fun e => absurd e (by first | decide | assumption | exact HZ0.out)⟩ <;> exact (((HB1.out).setCell (p := ⟨w.heap.size + 1, 0, none⟩) (by simp) _).setCell (p := ⟨w.heap.size + 1, 1, none⟩) (by simp) _).setCell (p := ⟨w.heap.size + 1, 2, none⟩) (by simp) _
  next =>
   have EE : Hid (sbE h v k x = plE h v 1 k) := by show _ = _; unfold sbE; rw [if_neg e0]
   have HZ0 := hid e0
   have ER : Hid (sbR h v k x = unH h (plE h v 1 k)) := by show _ = _; unfold sbR; rw [EE.out, if_neg e0]
   by_cases e1 : plE h v 1 k = 1
   next =>
    have EU : Hid (unH h (plE h v 1 k) = zeroH) := by show _ = _; unfold unH; rw [if_pos e1]
    have E1 := hid e1
    clear e0 e1
    go_enter Tryz.func82, Tryz.ntmps82
    go_wp2_with fail
    refine (wrong_any h v 1 k (.inr rfl) A c _ (HS.out.below HB0.out) HF.out).mono ?_
    rintro e w1 ⟨rfl, hb⟩
    rw [E1.out]
    have HB1 := hid (HB0.out.trans (hb.mono HB0.out.size))
    have HX1 := hid (HX0.out.later hb)
    have HK1 := hid (HK0.out.later hb)
    clear hb
    obtain ⟨x0, x1, x2⟩ := HX1.out.c3
    have hne01 : w.heap.size ≠ w.heap.size + 1 := by omega
    obtain ⟨u0, u1, u2⟩ := HK1.out.c3
    obtain ⟨uf0, uf1, uf2⟩ := HK1.out.f3
    go_wp2_with fail
    have K0 := (((HK1.out.set_ 0 (.slice none 0 0)).set_ 1 (.int .i64 0)).set_ 2 (.int .i64 0))
    have r0 := K0.cell 0
    have r1 := K0.cell 1
    have r2 := K0.cell 2
    simp only [List.setIfInBounds_toArray, List.set_cons_zero, List.set_cons_succ, List.getElem?_toArray, List.getElem?_cons_zero, List.getElem?_cons_succ] at r0 r1 r2
    refine bodyPost_ret (v := .tuple #[.agg #[.slice none 0 0, .int .i64 0, .int .i64 0], .int .i64 1]) (by simp [results, Tryz.results82, go_sem, r0, r1, r2]) rfl ?_
    rw [EE.out, ER.out, EU.out, E1.out]
    exact ⟨none, 0, rfl, ObsR.nil _, (((HB1.out).setCell (p := ⟨w.heap.size + 1, 0, none⟩) (by simp) _).setCell (p := ⟨w.heap.size + 1, 1, none⟩) (by simp) _).setCell (p := ⟨w.heap.size + 1, 2, none⟩) (by simp) _, fun e => absurd e (by decide)⟩
   next =>
    have EU : Hid (unH h (plE h v 1 k) = h) := by show _ = _; unfold unH; rw [if_neg e1]
    have e2 : (plE h v 1 k == 1) = false := by simpa using e1
    have e3 : (plE h v 1 k == 0) = false := by simpa using e0
    have e4 : (plE h v 1 k != 0) = true := by simpa using e0
    clear e0 e1
    go_enter Tryz.func82, Tryz.ntmps82
    go_wp2_with fail
    refine (wrong_any h v 1 k (.inr rfl) A c _ (HS.out.below HB0.out) HF.out).mono ?_
    rintro e w1 ⟨rfl, hb⟩
    have HB1 := hid (HB0.out.trans (hb.mono HB0.out.size))
    have HX1 := hid (HX0.out.later hb)
    have HK1 := hid (HK0.out.later hb)
    clear hb
    obtain ⟨x0, x1, x2⟩ := HX1.out.c3
    have hne01 : w.heap.size ≠ w.heap.size + 1 := by omega
    obtain ⟨u0, u1, u2⟩ := HK1.out.c3
    obtain ⟨uf0, uf1, uf2⟩ := HK1.out.f3
    go_wp2_with fail
    have K0 := (((HK1.out.set_ 0 (.slice A h.objs.length c)).set_ 1 (.int .i64 h.cap)).set_ 2 (.int .i64 h.last))
    have r0 := K0.cell 0
    have r1 := K0.cell 1
    have r2 := K0.cell 2
    simp only [List.setIfInBounds_toArray, List.set_cons_zero, List.set_cons_succ, List.getElem?_toArray, List.getElem?_cons_zero, List.getElem?_cons_succ] at r0 r1 r2
    refine bodyPost_ret (v := .tuple #[.agg #[.slice A h.objs.length c, .int .i64 h.cap, .int .i64 h.last], .int .i64 (plE h v 1 k)]) (by simp [results, Tryz.results82, go_sem, r0, r1, r2]) rfl ?_
    rw [EE.out, ER.out, EU.out]
    refine ⟨A, c, rfl, HS.out.below ?_, ?_, fun e => absurd e (by first | decide | assumption | exact HZ0.out)⟩ <;> exact (((HB1.out).setCell (p := ⟨w.heap.size + 1, 0, none⟩) (by simp) _).setCell (p := ⟨w.heap.size + 1, 1, none⟩) (by simp) _).setCell (p := ⟨w.heap.size + 1, 2, none⟩) (by simp) _
end Go.Proofs.YtnilempeldlieaaGreat
namespace Go.Proofs.YtnilempeldlieaaGreat
open Go.RowKit
set_option maxRecDepth 100000
theorem ob_read9 {h : Hp} {v : Int} {A : Option Addr} {w w' : World} (hs : ObsR w A h.objs) (hb : Below w.heap.size w w') (hr : refB h.objs.length v = true) :
    ∃ (i : Nat) (b off : Nat) (S : Option Addr) (d : Nat), refI h.objs.length v = i ∧ i < h.objs.length ∧ A = some ⟨b, off, none⟩ ∧ ObC w' b (off + i * 6) S d (obAt h v) ∧ IntsR w' S (obAt h v).slots ∧ (obAt h v).slots.length ≤ d := by
  obtain ⟨i, hi, hv, ho⟩ := obAt_get hr
  obtain ⟨b, off, rfl, hlt, hc⟩ := hs (by omega)
  obtain ⟨S, d, h1, h2, h3, -⟩ := hc i _ ho
  exact ⟨i, b, off, S, d, by rw [refI_nonneg hr, hv], hi, rfl, h1.below hlt hb, h2.below hb, h3⟩
def PaP9 (w : World) (h : Hp) (v : Int) (e : Ending) (w' : World) : Prop :=
  ∃ S d, e = .returned (.tuple #[.slice S (paL9 h v).length d, .bool (paB9 h v)]) ∧ IntsR w' S (paL9 h v) ∧ Below w.heap.size w w'
set_option maxHeartbeats 1000000 in
theorem rpairs_any9 (h : Hp) (v : Int) (A : Option Addr) (c : Nat) (w : World) (hs : ObsR w A h.objs) (fit : h.Fit) :
    Calls Tryz.prog 120 #[.agg #[.slice A h.objs.length c, .int .i64 h.cap, .int .i64 h.last], .int .i64 v] w (PaP9 w h v) := by
  obtain ⟨w0, hw0⟩ : ∃ w0, w0 = w.alloc (.cells #[Value.slice A h.objs.length c, Value.int .i64 h.cap, Value.int .i64 h.last] 24) := ⟨_, rfl⟩
  have HB0 : Hid (Below w.heap.size w w0) := by show Below _ _ _; rw [hw0]; exact below_alloc _ _
  have HX0 : Hid (Lies w0 w.heap.size 24 #[Value.slice A h.objs.length c, Value.int .i64 h.cap, Value.int .i64 h.last]) := by
    show Lies _ _ _ _
    rw [hw0]; exact Lies.new _ _ _
  have HS := hid hs
  have HF := hid fit
  have nil : ∀ W : World, IntsR W none [] := fun W hn => by simp at hn
  have NIL := hid nil
  clear hs fit nil
  go_enter Tryz.func120, Tryz.ntmps120
  go_upto_region 1 with fail
  rw [← hw0]
  clear hw0
  obtain ⟨x0, x1, x2⟩ := HX0.out.c3
  go_wp2_with fail
  refine (rref_any h v A c _).mono ?_
  rintro e w1 ⟨rfl, hb⟩
  have HB1 := hid (HB0.out.trans (hb.mono HB0.out.size))
  have HX1 := hid (HX0.out.later hb)
  clear hb x0 x1 x2
  cases hr : refB h.objs.length v
  next =>
   have E1 : refI h.objs.length v = -1 := by unfold refI; rw [if_neg (by rw [hr]; decide)]
   have EL : Hid (paL9 h v = []) := by show _ = _; unfold paL9; rw [if_pos (.inr (.inl (by omega)))]
   have EB : Hid (paB9 h v = false) := by show _ = _; unfold paB9; rw [E1]; rfl
   rw [E1]
   clear hr E1
   go_wp2_with fail
   go_ret2
   exact ⟨none, 0, by rw [EL.out, EB.out]; rfl, by rw [EL.out]; exact NIL.out _, HB1.out⟩
  next =>
   obtain ⟨i, b, off, S, d, hi, hil, rfl, hc, hint, -⟩ := ob_read9 HS.out HB1.out hr
   by_cases h0 : i = 0
   next =>
    have EL : Hid (paL9 h v = []) := by show _ = _; unfold paL9; rw [if_pos (.inl (by omega))]
    have EB : Hid (paB9 h v = true) := by show _ = _; unfold paB9; rw [hi, h0]; rfl
    subst h0
    rw [hi]
    clear hr hi hc hint
    go_wp2_with fail
    go_ret2
    exact ⟨none, 0, by rw [EL.out, EB.out]; rfl, by rw [EL.out]; exact NIL.out _, HB1.out⟩
   next =>
    have h0I : ¬ (i : Int) = 0 := by omega
    have h0B : ((i : Int) == 0) = false := beq_eq_false_iff_ne.2 h0I
    have hlI : (i : Int) < (h.objs.length : Int) := by omega
    have hng : ¬ (i : Int) < 0 := by omega
    have hngD : decide ((i : Int) < 0) = false := decide_eq_false hng
    have x0 := HX1.out.cell 0
    simp only [List.getElem?_toArray, List.getElem?_cons_zero] at x0
    have c1 := hc.c1
    have c2 := hc.c2
    rw [hi]
    by_cases hk : (obAt h v).kind = 0
    next =>
     have EL : Hid (paL9 h v = (obAt h v).slots) := by
       show _ = _
       unfold paL9
       rw [if_neg (by rw [hi]; rintro (e | e | e) <;> first | omega | exact e hk)]
     have EB : Hid (paB9 h v = true) := by
       show _ = _
       unfold paB9
       rw [hi, decide_eq_true (show (0 : Int) ≤ (i : Int) by omega), decide_eq_true hk]; simp
     have HI := hid hint
     rw [hk] at c1
     clear hr hi hc hint hk
     go_wp2_with fail
     go_ret2
     exact ⟨S, d, by rw [EL.out, EB.out]; rfl, by rw [EL.out]; exact HI.out, HB1.out⟩
    next =>
     have EL : Hid (paL9 h v = []) := by show _ = _; unfold paL9; rw [if_pos (.inr (.inr hk))]
     have EB : Hid (paB9 h v = false) := by
       show _ = _
       unfold paB9
       rw [hi, decide_eq_false h0I, decide_eq_false hk]; simp
     have hkB : ((obAt h v).kind == 0) = false := beq_eq_false_iff_ne.2 hk
     clear hr hi hc hint
     go_wp2_with fail
     go_ret2
     exact ⟨none, 0, by rw [EL.out, EB.out]; rfl, by rw [EL.out]; exact NIL.out _, HB1.out⟩
theorem sl_at9 {h : Hp} {c : Int} {k : Nat} (hk : k < (obAt h c).slots.length) : (obAt h c).slots[k]? = some (sl9 h c k) := by
  unfold sl9
  rw [List.getD_eq_getElem?_getD, List.getElem?_eq_getElem hk]; rfl
end Go.Proofs.YtnilempeldlieaaGreat
