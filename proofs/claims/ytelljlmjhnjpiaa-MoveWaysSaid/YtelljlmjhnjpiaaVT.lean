/- move.Table and move.values walked. -/
import Derived.Test.YtelljlmjhnjpiaaVB
import Derived.Test.YtelljlmjhnjpiaaVR
namespace Go.Proofs.Ytelljlmjhnjpiaa
open Go.RowKit
set_option maxRecDepth 100000
theorem at_one (w : World) (x : Int) : IntsR (w.alloc (.cells #[.int .i64 x] 3)) (some ⟨w.heap.size, 0, none⟩) [x] := fun _ => by
  refine ⟨w.heap.size, 0, rfl, by simp, fun j y hy => ?_⟩
  have := (Lies.new w 3 #[.int .i64 x]).cell j
  rw [Nat.zero_add, this]
  cases j with
  | zero => simp at hy ⊢; exact hy
  | succ j => simp at hy
theorem then_b {w v w' : World} (h : Below w.heap.size w v) (hb : Below v.heap.size v w') : Below w.heap.size w w' := h.trans (hb.mono h.size)
set_option maxHeartbeats 2000000 in
theorem table_any (h : Hp) (rs : List Int) (A R : Option Addr) (c d : Nat) (w : World) (hs : ObsR w A h.objs) (fit : h.Fit) (hr : IntsR w R rs) (hl : rs.length ≤ 9223372036854775807) :
    Calls Try.prog 37 #[.agg #[.slice A h.objs.length c, .int .i64 h.cap, .int .i64 h.last], .slice R rs.length d] w (IntsTwo w (tabL h rs) (liE h rs)) := by
  have HB0 := hid (below_alloc w (.cells #[Value.slice A h.objs.length c, Value.int .i64 h.cap, Value.int .i64 h.last] 24))
  have X0 := hid (Lies.new w 24 #[Value.slice A h.objs.length c, Value.int .i64 h.cap, Value.int .i64 h.last])
  have HS := hid hs
  have HF := hid fit
  have HR := hid hr
  clear hs fit hr
  by_cases he : liE h rs = 0
  · have hle := may_len (li_ok he).1
    have hLn := liveN_le h rs
    have HND := hid (liveN_nodup h rs)
    have HLT : Hid (∀ i ∈ liveN h rs, i < h.objs.length) := fun i hi => liveN_lt hi
    have HT := hid (tabL_yes he)
    have HL : Hid (liL h rs = (liveN h rs).map Int.ofNat) := (li_ok he).2.2
    obtain ⟨L, hL⟩ : ∃ L, L = liveN h rs := ⟨_, rfl⟩
    rw [← hL] at hLn HND HLT HT HL
    have hLe : (liL h rs).length = L.length := by rw [HL.out, List.length_map]
    rw [he]
    go_enter Try.func37, Try.ntmps37
    go_wp2_with fail
    refine (live_any h rs A R c d _ (HS.out.below HB0.out) HF.out (HR.out.below HB0.out) hl).mono ?_
    rintro e w1 ⟨A1, c1, rfl, hi1, -, -, hb1⟩
    rw [he, hLe]
    have HB1 := hid (HB0.out.trans (hb1.mono (by simp)))
    have X1 := hid (X0.out.later hb1)
    rw [HL.out] at hi1
    have HI1 := hid hi1
    clear hi1 hb1 hL hLe
    have HAL := hid (below_alloc w1 (.cells #[.int .i64 (-1)] 3))
    have x0 := (X1.out.later HAL.out).cell 0
    simp only [List.getElem?_toArray, List.getElem?_cons_zero] at x0
    go_wp2_with fail
    refine (repeat_any (-1) h.objs.length hle (some ⟨w1.heap.size, 0, none⟩) 1 _ (at_one w1 (-1))).mono ?_
    rintro e w2 ⟨A2, c2, rfl, hown, hb2⟩
    obtain ⟨W, hW⟩ : ∃ W, W = w1.alloc (.cells #[.int .i64 (-1)] 3) := ⟨_, rfl⟩
    rw [← hW] at hown hb2 HAL
    have HIW := hid (HI1.out.below HAL.out)
    have HBW := hid (then_b HB1.out HAL.out)
    have hr0 : (List.replicate h.objs.length (-1 : Int)) = (List.range h.objs.length).map (newK L 0) := by
      apply List.ext_getElem?
      intro j
      rw [List.getElem?_map, List.getElem?_replicate]
      by_cases hj : j < h.objs.length
      · rw [if_pos hj, List.getElem?_range hj]; simp [newK_zero]
      · rw [if_neg hj, List.getElem?_eq_none (by simp; omega)]; rfl
    rw [hr0] at hown
    have HO := hid hown
    have HB2 := hid hb2
    clear hown hb2 hW hr0 x0 X1 HAL HI1
    go_wp2_with fail
    go_loopw [27] (fun i wr => ∃ k : Nat, k ≤ L.length ∧ i = .int .i64 k ∧ wr.ownsRow W.heap.size 3 1 (.slice A2 h.objs.length c2) h.objs.length (((List.range h.objs.length).map (newK L k)).map (Value.int .i64)) ∧ Below W.heap.size W wr) (fun i _ => L.length - (intOf i).toNat)
    case atStart => exact ⟨0, Nat.zero_le _, rfl, HO.out, HB2.out⟩
    case round =>
      clear HO HB2
      obtain ⟨k, hk, rfl, hown, hbw⟩ := hrel
      have HO := hid hown
      have HW := hid hbw
      clear hown hbw
      by_cases hlt : k < L.length
      · obtain ⟨b, o, rfl, hb, hc⟩ := HIW.out (by rw [List.length_map]; omega)
        have hcell := (HW.out.cell (p := ⟨b, o + k, none⟩) hb).trans (hc k (L[k] : Int) (by rw [List.getElem?_map, List.getElem?_eq_getElem hlt]; rfl))
        have hln := HLT.out _ (List.getElem_mem hlt)
        obtain ⟨g, cg, hvv, hg0, hg1⟩ := HO.out.form (by omega)
        simp only [Value.slice.injEq, true_and] at hvv
        obtain ⟨rfl, rfl⟩ := hvv
        obtain ⟨q, hq⟩ : ∃ q, q = L[k] := ⟨_, rfl⟩
        have HQ := hid hq
        rw [← hq] at hcell hln
        have qc := HO.out.cellAt q (by omega)
        have qf := HO.out.frozenAt q
        rw [List.getElem?_map, List.getElem?_map, List.getElem?_range hln] at qc
        simp only [Option.map_some] at qc
        clear hc hq
        go_wp2_with fail
        go_roundw
        case rel =>
          refine ⟨k + 1, by omega, by go_num, ?_, HW.out.setCell (p := ⟨g, q, none⟩) hg0 _⟩
          have := (HO.out.stored q (.int .i64 k)).1
          rw [show Value.int .i64 (k : Int) = (Value.int .i64) (k : Int) from rfl, ← List.map_set, HQ.out, newK_step HND.out hlt, ← HQ.out] at this
          exact this
        case measure => simp [intOf]; omega
      · obtain rfl : k = L.length := by omega
        go_wp2_with fail
        go_ret2
        have hO := HO.out
        rw [← HT.out] at hO
        have hll : (tabL h rs).length = h.objs.length := by rw [HT.out]; simp
        rw [← hll] at hO ⊢
        exact ⟨A2, c2, rfl, own_ints hO, own_nil hO, own_cap hO, then_b HBW.out HW.out⟩
  · have e1 : tabL h rs = [] := tabL_no he
    have e2 : liL h rs = [] := by unfold liL; rw [if_neg he]
    have hne : (liE h rs != 0) = true := by simpa using he
    rw [e1]
    obtain ⟨en, hen⟩ : ∃ en, en = liE h rs := ⟨_, rfl⟩
    rw [← hen] at hne ⊢
    have HEN := hid hen
    clear e1 hen he
    go_enter Try.func37, Try.ntmps37
    go_wp2_with fail
    refine (live_any h rs A R c d _ (HS.out.below HB0.out) HF.out (HR.out.below HB0.out) hl).mono ?_
    rintro e w1 ⟨A1, c1, rfl, -, -, -, hb1⟩
    rw [← HEN.out]
    have HB1 := hid (HB0.out.trans (hb1.mono (by simp)))
    clear hb1
    go_wp2_with fail
    go_ret2
    exact ⟨none, 0, rfl, fun hn => by simp at hn, fun _ => rfl, Nat.le_refl _, HB1.out⟩
/-- a row of ints of the call's own is returned -/
def IntsOwn (w : World) (L : List Int) (e : Ending) (w' : World) : Prop :=
  ∃ A c, e = .returned (.slice A L.length c) ∧ w'.ownsRow w.heap.size 3 1 (.slice A L.length c) L.length (L.map (Value.int .i64)) ∧ Below w.heap.size w w'
theorem map_step (f : Int → Int) (l : List Int) (k : Nat) (hk : k < l.length) : ((l.take k).map f ++ l.drop k).set k (f l[k]) = (l.take (k + 1)).map f ++ l.drop (k + 1) := by
  have hk2 : ((l.take k).map f).length = k := by rw [List.length_map, List.length_take]; omega
  rw [List.set_append_right _ _ (by omega), hk2, Nat.sub_self, List.drop_eq_getElem_cons hk, List.set_cons_zero, List.take_succ_eq_append_getElem hk, List.map_append, List.append_assoc]
  rfl
set_option maxHeartbeats 2000000 in
theorem values_any (t l : List Int) (A B : Option Addr) (c d : Nat) (w : World) (ht : IntsR w A t) (hl : IntsR w B l) (htl : t.length ≤ 9223372036854775807) (hll : l.length ≤ 100000) :
    Calls Try.prog 73 #[.slice A t.length c, .slice B l.length d] w (IntsOwn w (l.map (vaV t))) := by
  have HT := hid ht
  have HL := hid hl
  clear ht hl
  go_enter Try.func73, Try.ntmps73
  go_wp2_with fail
  refine (clone1_any B l d _ HL.out (by omega)).mono ?_
  rintro e w1 ⟨A1, c1, rfl, hown, hb1⟩
  have HO := hid hown
  have HB1 := hid hb1
  clear hown hb1
  go_wp2_with fail
  go_loopw [11] (fun i wr => ∃ k : Nat, k ≤ l.length ∧ i = .int .i64 k ∧ wr.ownsRow w.heap.size 3 1 (.slice A1 l.length c1) l.length (((l.take k).map (vaV t) ++ l.drop k).map (Value.int .i64)) ∧ Below w.heap.size w wr) (fun i _ => l.length - (intOf i).toNat)
  case atStart => exact ⟨0, Nat.zero_le _, rfl, HO.out, HB1.out⟩
  case round =>
    clear HO HB1
    obtain ⟨k, hk, rfl, hown, hbw⟩ := hrel
    have HO := hid hown
    have HW := hid hbw
    clear hown hbw
    by_cases hlt : k < l.length
    · obtain ⟨g, cg, hvv, hg0, hg1⟩ := HO.out.form (by omega)
      simp only [Value.slice.injEq, true_and] at hvv
      obtain ⟨rfl, rfl⟩ := hvv
      have qc := HO.out.cellAt k (by omega)
      have qf := HO.out.frozenAt k
      have hk2 : ((l.take k).map (vaV t)).length = k := by rw [List.length_map, List.length_take]; omega
      rw [List.getElem?_map, List.getElem?_append_right (by omega), hk2, Nat.sub_self, List.getElem?_drop, Nat.add_zero, List.getElem?_eq_getElem hlt] at qc
      simp only [Option.map_some] at qc
      have HMS := hid (map_step (vaV t) l k hlt)
      clear hk2
      go_wp2_with fail
      refine (value_any t l[k] A c _ (HT.out.below HW.out) htl).mono ?_
      rintro e w2 ⟨rfl, rfl⟩
      go_wp2_with fail
      go_roundw
      case rel =>
        refine ⟨k + 1, by omega, by go_num, ?_, HW.out.setCell (p := ⟨g, k, none⟩) hg0 _⟩
        have := (HO.out.stored k (.int .i64 (vaV t l[k]))).1
        rw [← List.map_set, HMS.out] at this
        exact this
      case measure => simp [intOf]; omega
    · obtain rfl : k = l.length := by omega
      go_wp2_with fail
      go_ret
      have hO := HO.out
      rw [List.take_length, List.drop_length, List.append_nil] at hO
      have hlm : l.length = (l.map (vaV t)).length := by simp
      refine ⟨A1, c1, congrArg (fun n => Ending.returned (.slice A1 n c1)) hlm, ?_, HW.out⟩
      rw [← hlm]
      exact hO
end Go.Proofs.Ytelljlmjhnjpiaa
