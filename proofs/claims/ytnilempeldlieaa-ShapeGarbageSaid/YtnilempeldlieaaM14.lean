/- mark's Live. move.Table and move.values walked. -/
import Derived.Test.YtnilempeldlieaaM13
import Derived.Test.YtnilempeldlieaaM03
import Derived.Test.YtnilempeldlieaaZS
import Derived.Sort.OwnSortedInts
import Derived.Test.YtnilempeldlieaaM07
import Derived.Test.YtnilempeldlieaaM12
namespace Go.Proofs.Ytnilempeldlieaa
open Go.RowKit Go.Sort
set_option maxRecDepth 100000
theorem sort_row (M : List Nat) (A : Option Addr) (c base : Nat) (w : World) (h : w.ownsRow base 3 1 (.slice A M.length c) M.length (M.map intN)) (hb : base ≤ w.heap.size) (hl : M.length ≤ 256) :
    Calls Try.prog 79 #[.slice A M.length c] w fun e w' => e = .returned (.tuple #[]) ∧ w'.ownsRow base 3 1 (.slice A M.length c) M.length (((M.map Int.ofNat).mergeSort fun x y => decide (x ≤ y)).map (Value.int .i64)) ∧ Below base w w' := by
  by_cases h0 : M.length = 0
  · obtain rfl : M = [] := List.length_eq_zero_iff.1 h0
    refine (Try.slices_Sort_int_none A c w).mono ?_
    rintro e w' ⟨rfl, rfl⟩
    exact ⟨rfl, by simpa using h, Below.refl _ _⟩
  · rcases h.2 with ⟨-, hn⟩ | ⟨g, cap, cur, hv, hbase, hblk, h1, h2, h3, h4⟩
    · exact absurd hn h0
    · simp only [Value.slice.injEq, true_and] at hv
      obtain ⟨rfl, rfl⟩ := hv
      have hm : M.map intN = (M.map Int.ofNat).map (Value.int .i64) := by rw [List.map_map]; rfl
      have hlm : (M.map Int.ofNat).length = M.length := by simp
      have := (Try.slices_Sort_int g 0 c (M.map Int.ofNat) w (holds_of_blockI hblk (by rw [hlm, ← hm, ← h4, Nat.mul_one])) (Array.getElem?_eq_some_iff.1 hblk).1 (by omega))
      rw [hlm] at this
      refine this.mono ?_
      rintro e w' ⟨rfl, n, os, rfl⟩
      refine ⟨rfl, ?_, (Below.refl _ _).grown (grownBy_sortedI _) hb (fun k hk => by cases hk; exact hbase)⟩
      have := ownsRow_sortedI (n := n) (os := os) (ts := (M.map Int.ofNat).mergeSort fun x y => decide (x ≤ y)) (ss := M.map Int.ofNat) (by simp) hbase hblk (by omega) h2 h3
      rwa [hlm] at this
theorem live_any (h : Hp) (rs : List Int) (A R : Option Addr) (c d : Nat) (w : World) (hs : ObsR w A h.objs) (fit : h.Fit) (hr : IntsR w R rs) (hl : rs.length ≤ 9223372036854775807) :
    Calls Try.prog 58 #[.agg #[.slice A h.objs.length c, .int .i64 h.cap, .int .i64 h.last], .slice R rs.length d] w (IntsTwo w (liL h rs) (liE h rs)) := by
  have HB0 := hid (below_alloc w (.cells #[Value.slice A h.objs.length c, Value.int .i64 h.cap, Value.int .i64 h.last] 24))
  have HX := hid (BoxH.new w h A c)
  have hw0 : w.heap.size < (w.alloc (.cells #[Value.slice A h.objs.length c, Value.int .i64 h.cap, Value.int .i64 h.last] 24)).heap.size := by simp
  have HS := hid hs
  have HF := hid fit
  have HR := hid hr
  clear hs fit hr
  cases hm : mayB h
  · have e1 : liE h rs = 1 := by unfold liE; rw [hm]; rfl
    have e2 : liL h rs = [] := by unfold liL; rw [e1]; rfl
    rw [e1, e2]; clear e1 e2
    go_enter Try.func58, Try.ntmps58
    go_wp2_with fail
    refine (may_any h A c _ (HS.out.below HB0.out) HF.out).mono ?_
    rintro e w1 ⟨rfl, hb1⟩
    have HB1 := hid (HB0.out.trans (hb1.mono (by simp)))
    clear hb1
    rw [hm]
    go_wp2_with fail
    go_ret2
    exact ⟨none, 0, rfl, fun hn => by simp at hn, fun _ => rfl, Nat.le_refl _, HB1.out⟩
  · have HM := hid hm
    cases hv : rs.all (hasB h.objs.length)
    · have e1 : liE h rs = 31 := by unfold liE; rw [hm, hv]; rfl
      have e2 : liL h rs = [] := by unfold liL; rw [e1]; rfl
      rw [e1, e2]; clear e1 e2
      go_enter Try.func58, Try.ntmps58
      go_wp2_with fail
      refine (may_any h A c _ (HS.out.below HB0.out) HF.out).mono ?_
      rintro e w1 ⟨rfl, hb1⟩
      have HB1 := hid (HB0.out.trans (hb1.mono (by simp)))
      have HX1 := hid (HX.out.later hb1)
      have hl1 : w.heap.size < w1.heap.size := Nat.lt_of_lt_of_le hw0 hb1.size
      clear hb1
      rw [hm]
      go_wp2_with fail
      refine (conr_any h A c w.heap.size R rs d _ HX1.out hl1 (HR.out.below HB1.out) hl).mono ?_
      rintro e w2 ⟨rfl, hb2⟩
      have HB2 := hid (HB1.out.trans (hb2.mono HB1.out.size))
      clear hb2
      rw [hv]
      go_wp2_with fail
      go_ret2
      exact ⟨none, 0, rfl, fun hn => by simp at hn, fun _ => rfl, Nat.le_refl _, HB2.out⟩
    · have e1 : liE h rs = 0 := by unfold liE; rw [hm, hv]; rfl
      have e2 : liL h rs = liveL h rs := by unfold liL; rw [e1]; rfl
      rw [e1, e2]; clear e1 e2
      go_enter Try.func58, Try.ntmps58
      go_wp2_with fail
      refine (may_any h A c _ (HS.out.below HB0.out) HF.out).mono ?_
      rintro e w1 ⟨rfl, hb1⟩
      have HB1 := hid (HB0.out.trans (hb1.mono (by simp)))
      have HX1 := hid (HX.out.later hb1)
      have hl1 : w.heap.size < w1.heap.size := Nat.lt_of_lt_of_le hw0 hb1.size
      clear hb1
      rw [hm]
      go_wp2_with fail
      refine (conr_any h A c w.heap.size R rs d _ HX1.out hl1 (HR.out.below HB1.out) hl).mono ?_
      rintro e w2 ⟨rfl, hb2⟩
      have HB2 := hid (HB1.out.trans (hb2.mono HB1.out.size))
      obtain ⟨x0, x1, x2⟩ := HX1.out.later hb2
      clear hb2
      rw [hv]
      go_wp2_with fail
      refine (reach_any h rs A R c d _ (HS.out.below HB2.out) (HR.out.below HB2.out) HM.out hl (List.all_eq_true.1 hv)).mono ?_
      rintro e w3 ⟨M, A3, c3, rfl, hown, hnd, hle, hmr, hb3⟩
      have HB3 := hid (HB2.out.trans (hb3.mono HB2.out.size))
      have HO := hid hown
      have HSL := hid (sort_live hnd hmr)
      have hz := hb3.size
      clear hown hnd hmr hb3 x0 x1 x2
      go_wp2_with fail
      refine (sort_row M A3 c3 _ _ HO.out hz hle).mono ?_
      rintro e w4 ⟨rfl, hown, hb4⟩
      rw [HSL.out] at hown
      have HO4 := hid hown
      have HB4 := hid (HB3.out.trans (hb4.mono HB2.out.size))
      have hll : (liveL h rs).length = M.length := by have := congrArg List.length HSL.out; simpa using this.symm
      clear hown hb4
      go_wp2_with fail
      go_ret2
      have hO := HO4.out
      rw [← hll] at hO ⊢
      exact ⟨A3, c3, rfl, own_ints hO, own_nil hO, own_cap hO, HB4.out⟩
end Go.Proofs.Ytnilempeldlieaa
namespace Go.Proofs.Ytnilempeldlieaa
open Go.RowKit
set_option maxRecDepth 100000
set_option maxHeartbeats 2000000 in
theorem table_any (h : Hp) (rs : List Int) (A R : Option Addr) (c d : Nat) (w : World) (hs : ObsR w A h.objs) (fit : h.Fit) (hr : IntsR w R rs) (hl : rs.length ≤ 9223372036854775807) :
    Calls Try.prog 43 #[.agg #[.slice A h.objs.length c, .int .i64 h.cap, .int .i64 h.last], .slice R rs.length d] w (IntsTwo w (tabL h rs) (liE h rs)) := by
  have HB0 := hid (below_alloc w (.cells #[Value.slice A h.objs.length c, Value.int .i64 h.cap, Value.int .i64 h.last] 24))
  have X0 := hid (Lies.new w 24 #[Value.slice A h.objs.length c, Value.int .i64 h.cap, Value.int .i64 h.last])
  have HS := hid hs
  have HF := hid fit
  have HR := hid hr
  clear hs fit hr
  by_cases he : liE h rs = 0
  · have hle := may_len (li_ok he).1
    have hLn := liveN_le h rs
    have HND := hid (liveN_nodup h rs)
    have HLT : Hid (∀ i ∈ liveN h rs, i < h.objs.length) := fun i hi => liveN_lt hi
    have HT := hid (tabL_yes he)
    have HL : Hid (liL h rs = (liveN h rs).map Int.ofNat) := (li_ok he).2.2
    obtain ⟨L, hL⟩ : ∃ L, L = liveN h rs := ⟨_, rfl⟩
    rw [← hL] at hLn HND HLT HT HL
    have hLe : (liL h rs).length = L.length := by rw [HL.out, List.length_map]
    rw [he]
    go_enter Try.func43, Try.ntmps43
    go_wp2_with fail
    refine (live_any h rs A R c d _ (HS.out.below HB0.out) HF.out (HR.out.below HB0.out) hl).mono ?_
    rintro e w1 ⟨A1, c1, rfl, hi1, -, -, hb1⟩
    rw [he, hLe]
    have HB1 := hid (HB0.out.trans (hb1.mono (by simp)))
    have X1 := hid (X0.out.later hb1)
    rw [HL.out] at hi1
    have HI1 := hid hi1
    clear hi1 hb1 hL hLe
    have HAL := hid (below_alloc w1 (.cells #[.int .i64 (-1)] 3))
    have x0 := (X1.out.later HAL.out).cell 0
    simp only [List.getElem?_toArray, List.getElem?_cons_zero] at x0
    go_wp2_with fail
    refine (repeat_any (-1) h.objs.length hle (some ⟨w1.heap.size, 0, none⟩) 1 _ (at_one w1 (-1))).mono ?_
    rintro e w2 ⟨A2, c2, rfl, hown, hb2⟩
    obtain ⟨W, hW⟩ : ∃ W, W = w1.alloc (.cells #[.int .i64 (-1)] 3) := ⟨_, rfl⟩
    rw [← hW] at hown hb2 HAL
    have HIW := hid (HI1.out.below HAL.out)
    have HBW := hid (then_b HB1.out HAL.out)
    have hr0 : (List.replicate h.objs.length (-1 : Int)) = (List.range h.objs.length).map (newK L 0) := by
      apply List.ext_getElem?
      intro j
      rw [List.getElem?_map, List.getElem?_replicate]
      by_cases hj : j < h.objs.length
      · rw [if_pos hj, List.getElem?_range hj]; simp [newK_zero]
      · rw [if_neg hj, List.getElem?_eq_none (by simp; omega)]; rfl
    rw [hr0] at hown
    have HO := hid hown
    have HB2 := hid hb2
    clear hown hb2 hW hr0 x0 X1 HAL HI1
    go_wp2_with fail
    go_loopw [27] (fun i wr => ∃ k : Nat, k ≤ L.length ∧ i = .int .i64 k ∧ wr.ownsRow W.heap.size 3 1 (.slice A2 h.objs.length c2) h.objs.length (((List.range h.objs.length).map (newK L k)).map (Value.int .i64)) ∧ Below W.heap.size W wr) (fun i _ => L.length - (intOf i).toNat)
    case atStart => exact ⟨0, Nat.zero_le _, rfl, HO.out, HB2.out⟩
    case round =>
      clear HO HB2
      obtain ⟨k, hk, rfl, hown, hbw⟩ := hrel
      have HO := hid hown
      have HW := hid hbw
      clear hown hbw
      by_cases hlt : k < L.length
      · obtain ⟨b, o, rfl, hb, hc⟩ := HIW.out (by rw [List.length_map]; omega)
        have hcell := (HW.out.cell (p := ⟨b, o + k, none⟩) hb).trans (hc k (L[k] : Int) (by rw [List.getElem?_map, List.getElem?_eq_getElem hlt]; rfl))
        have hln := HLT.out _ (List.getElem_mem hlt)
        obtain ⟨g, cg, hvv, hg0, hg1⟩ := HO.out.form (by omega)
        simp only [Value.slice.injEq, true_and] at hvv
        obtain ⟨rfl, rfl⟩ := hvv
        obtain ⟨q, hq⟩ : ∃ q, q = L[k] := ⟨_, rfl⟩
        have HQ := hid hq
        rw [← hq] at hcell hln
        have qc := HO.out.cellAt q (by omega)
        have qf := HO.out.frozenAt q
        rw [List.getElem?_map, List.getElem?_map, List.getElem?_range hln] at qc
        simp only [Option.map_some] at qc
        clear hc hq
        go_wp2_with fail
        go_roundw
        case rel =>
          refine ⟨k + 1, by omega, by go_num, ?_, HW.out.setCell (p := ⟨g, q, none⟩) hg0 _⟩
          have := (HO.out.stored q (.int .i64 k)).1
          rw [show Value.int .i64 (k : Int) = (Value.int .i64) (k : Int) from rfl, ← List.map_set, HQ.out, newK_step HND.out hlt, ← HQ.out] at this
          exact this
        case measure => simp [intOf]; omega
      · obtain rfl : k = L.length := by omega
        go_wp2_with fail
        go_ret2
        have hO := HO.out
        rw [← HT.out] at hO
        have hll : (tabL h rs).length = h.objs.length := by rw [HT.out]; simp
        rw [← hll] at hO ⊢
        exact ⟨A2, c2, rfl, own_ints hO, own_nil hO, own_cap hO, then_b HBW.out HW.out⟩
  · have e1 : tabL h rs = [] := tabL_no he
    have e2 : liL h rs = [] := by unfold liL; rw [if_neg he]
    have hne : (liE h rs != 0) = true := by simpa using he
    rw [e1]
    obtain ⟨en, hen⟩ : ∃ en, en = liE h rs := ⟨_, rfl⟩
    rw [← hen] at hne ⊢
    have HEN := hid hen
    clear e1 hen he
    go_enter Try.func43, Try.ntmps43
    go_wp2_with fail
    refine (live_any h rs A R c d _ (HS.out.below HB0.out) HF.out (HR.out.below HB0.out) hl).mono ?_
    rintro e w1 ⟨A1, c1, rfl, -, -, -, hb1⟩
    rw [← HEN.out]
    have HB1 := hid (HB0.out.trans (hb1.mono (by simp)))
    clear hb1
    go_wp2_with fail
    go_ret2
    exact ⟨none, 0, rfl, fun hn => by simp at hn, fun _ => rfl, Nat.le_refl _, HB1.out⟩
set_option maxHeartbeats 2000000 in
theorem values_any (t l : List Int) (A B : Option Addr) (c d : Nat) (w : World) (ht : IntsR w A t) (hl : IntsR w B l) (htl : t.length ≤ 9223372036854775807) (hll : l.length ≤ 100000) :
    Calls Try.prog 45 #[.slice A t.length c, .slice B l.length d] w (IntsOwn w (l.map (vaV t))) := by
  have HT := hid ht
  have HL := hid hl
  clear ht hl
  go_enter Try.func45, Try.ntmps45
  go_wp2_with fail
  refine (clone1_any B l d _ HL.out (by omega)).mono ?_
  rintro e w1 ⟨A1, c1, rfl, hown, hb1⟩
  have HO := hid hown
  have HB1 := hid hb1
  clear hown hb1
  go_wp2_with fail
  go_loopw [11] (fun i wr => ∃ k : Nat, k ≤ l.length ∧ i = .int .i64 k ∧ wr.ownsRow w.heap.size 3 1 (.slice A1 l.length c1) l.length (((l.take k).map (vaV t) ++ l.drop k).map (Value.int .i64)) ∧ Below w.heap.size w wr) (fun i _ => l.length - (intOf i).toNat)
  case atStart => exact ⟨0, Nat.zero_le _, rfl, HO.out, HB1.out⟩
  case round =>
    clear HO HB1
    obtain ⟨k, hk, rfl, hown, hbw⟩ := hrel
    have HO := hid hown
    have HW := hid hbw
    clear hown hbw
    by_cases hlt : k < l.length
    · obtain ⟨g, cg, hvv, hg0, hg1⟩ := HO.out.form (by omega)
      simp only [Value.slice.injEq, true_and] at hvv
      obtain ⟨rfl, rfl⟩ := hvv
      have qc := HO.out.cellAt k (by omega)
      have qf := HO.out.frozenAt k
      have hk2 : ((l.take k).map (vaV t)).length = k := by rw [List.length_map, List.length_take]; omega
      rw [List.getElem?_map, List.getElem?_append_right (by omega), hk2, Nat.sub_self, List.getElem?_drop, Nat.add_zero, List.getElem?_eq_getElem hlt] at qc
      simp only [Option.map_some] at qc
      have HMS := hid (map_step (vaV t) l k hlt)
      clear hk2
      go_wp2_with fail
      refine (value_any t l[k] A c _ (HT.out.below HW.out) htl).mono ?_
      rintro e w2 ⟨rfl, rfl⟩
      go_wp2_with fail
      go_roundw
      case rel =>
        refine ⟨k + 1, by omega, by go_num, ?_, HW.out.setCell (p := ⟨g, k, none⟩) hg0 _⟩
        have := (HO.out.stored k (.int .i64 (vaV t l[k]))).1
        rw [← List.map_set, HMS.out] at this
        exact this
      case measure => simp [intOf]; omega
    · obtain rfl : k = l.length := by omega
      go_wp2_with fail
      go_ret
      have hO := HO.out
      rw [List.take_length, List.drop_length, List.append_nil] at hO
      have hlm : l.length = (l.map (vaV t)).length := by simp
      refine ⟨A1, c1, congrArg (fun n => Ending.returned (.slice A1 n c1)) hlm, ?_, HW.out⟩
      rw [← hlm]
      exact hO
end Go.Proofs.Ytnilempeldlieaa
