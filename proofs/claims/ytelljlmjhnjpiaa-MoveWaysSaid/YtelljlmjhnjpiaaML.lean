/- mark's Live. -/
import Derived.Test.YtelljlmjhnjpiaaMW
import Derived.Test.YtelljlmjhnjpiaaMA
import Derived.Test.YtelljlmjhnjpiaaZS
import Derived.Sort.OwnSortedInts
namespace Go.Proofs.Ytelljlmjhnjpiaa
open Go.RowKit Go.Sort
set_option maxRecDepth 100000
theorem sort_row (M : List Nat) (A : Option Addr) (c base : Nat) (w : World) (h : w.ownsRow base 3 1 (.slice A M.length c) M.length (M.map intN)) (hb : base ≤ w.heap.size) (hl : M.length ≤ 256) :
    Calls Try.prog 91 #[.slice A M.length c] w fun e w' => e = .returned (.tuple #[]) ∧ w'.ownsRow base 3 1 (.slice A M.length c) M.length (((M.map Int.ofNat).mergeSort fun x y => decide (x ≤ y)).map (Value.int .i64)) ∧ Below base w w' := by
  by_cases h0 : M.length = 0
  · obtain rfl : M = [] := List.length_eq_zero_iff.1 h0
    refine (Try.slices_Sort_int_none A c w).mono ?_
    rintro e w' ⟨rfl, rfl⟩
    exact ⟨rfl, by simpa using h, Below.refl _ _⟩
  · rcases h.2 with ⟨-, hn⟩ | ⟨g, cap, cur, hv, hbase, hblk, h1, h2, h3, h4⟩
    · exact absurd hn h0
    · simp only [Value.slice.injEq, true_and] at hv
      obtain ⟨rfl, rfl⟩ := hv
      have hm : M.map intN = (M.map Int.ofNat).map (Value.int .i64) := by rw [List.map_map]; rfl
      have hlm : (M.map Int.ofNat).length = M.length := by simp
      have := (Try.slices_Sort_int g 0 c (M.map Int.ofNat) w (holds_of_blockI hblk (by rw [hlm, ← hm, ← h4, Nat.mul_one])) (Array.getElem?_eq_some_iff.1 hblk).1 (by omega))
      rw [hlm] at this
      refine this.mono ?_
      rintro e w' ⟨rfl, n, os, rfl⟩
      refine ⟨rfl, ?_, (Below.refl _ _).grown (grownBy_sortedI _) hb (fun k hk => by cases hk; exact hbase)⟩
      have := ownsRow_sortedI (n := n) (os := os) (ts := (M.map Int.ofNat).mergeSort fun x y => decide (x ≤ y)) (ss := M.map Int.ofNat) (by simp) hbase hblk (by omega) h2 h3
      rwa [hlm] at this
def liE (h : Hp) (rs : List Int) : Int := if mayB h = true then (if rs.all (hasB h.objs.length) = true then 0 else 31) else 1
noncomputable def liL (h : Hp) (rs : List Int) : List Int := if liE h rs = 0 then liveL h rs else []
/-- a list of ints of the call's own is returned, and an error -/
def IntsTwo (w : World) (L : List Int) (en : Int) (e : Ending) (w' : World) : Prop :=
  ∃ A c, e = .returned (.tuple #[.slice A L.length c, .int .i64 en]) ∧ IntsR w' A L ∧ (A = none → c = 0) ∧ L.length ≤ c ∧ Below w.heap.size w w'
theorem live_any (h : Hp) (rs : List Int) (A R : Option Addr) (c d : Nat) (w : World) (hs : ObsR w A h.objs) (fit : h.Fit) (hr : IntsR w R rs) (hl : rs.length ≤ 9223372036854775807) :
    Calls Try.prog 69 #[.agg #[.slice A h.objs.length c, .int .i64 h.cap, .int .i64 h.last], .slice R rs.length d] w (IntsTwo w (liL h rs) (liE h rs)) := by
  have HB0 := hid (below_alloc w (.cells #[Value.slice A h.objs.length c, Value.int .i64 h.cap, Value.int .i64 h.last] 24))
  have HX := hid (BoxH.new w h A c)
  have hw0 : w.heap.size < (w.alloc (.cells #[Value.slice A h.objs.length c, Value.int .i64 h.cap, Value.int .i64 h.last] 24)).heap.size := by simp
  have HS := hid hs
  have HF := hid fit
  have HR := hid hr
  clear hs fit hr
  cases hm : mayB h
  · have e1 : liE h rs = 1 := by unfold liE; rw [hm]; rfl
    have e2 : liL h rs = [] := by unfold liL; rw [e1]; rfl
    rw [e1, e2]; clear e1 e2
    go_enter Try.func69, Try.ntmps69
    go_wp2_with fail
    refine (may_any h A c _ (HS.out.below HB0.out) HF.out).mono ?_
    rintro e w1 ⟨rfl, hb1⟩
    have HB1 := hid (HB0.out.trans (hb1.mono (by simp)))
    clear hb1
    rw [hm]
    go_wp2_with fail
    go_ret2
    exact ⟨none, 0, rfl, fun hn => by simp at hn, fun _ => rfl, Nat.le_refl _, HB1.out⟩
  · have HM := hid hm
    cases hv : rs.all (hasB h.objs.length)
    · have e1 : liE h rs = 31 := by unfold liE; rw [hm, hv]; rfl
      have e2 : liL h rs = [] := by unfold liL; rw [e1]; rfl
      rw [e1, e2]; clear e1 e2
      go_enter Try.func69, Try.ntmps69
      go_wp2_with fail
      refine (may_any h A c _ (HS.out.below HB0.out) HF.out).mono ?_
      rintro e w1 ⟨rfl, hb1⟩
      have HB1 := hid (HB0.out.trans (hb1.mono (by simp)))
      have HX1 := hid (HX.out.later hb1)
      have hl1 : w.heap.size < w1.heap.size := Nat.lt_of_lt_of_le hw0 hb1.size
      clear hb1
      rw [hm]
      go_wp2_with fail
      refine (conr_any h A c w.heap.size R rs d _ HX1.out hl1 (HR.out.below HB1.out) hl).mono ?_
      rintro e w2 ⟨rfl, hb2⟩
      have HB2 := hid (HB1.out.trans (hb2.mono HB1.out.size))
      clear hb2
      rw [hv]
      go_wp2_with fail
      go_ret2
      exact ⟨none, 0, rfl, fun hn => by simp at hn, fun _ => rfl, Nat.le_refl _, HB2.out⟩
    · have e1 : liE h rs = 0 := by unfold liE; rw [hm, hv]; rfl
      have e2 : liL h rs = liveL h rs := by unfold liL; rw [e1]; rfl
      rw [e1, e2]; clear e1 e2
      go_enter Try.func69, Try.ntmps69
      go_wp2_with fail
      refine (may_any h A c _ (HS.out.below HB0.out) HF.out).mono ?_
      rintro e w1 ⟨rfl, hb1⟩
      have HB1 := hid (HB0.out.trans (hb1.mono (by simp)))
      have HX1 := hid (HX.out.later hb1)
      have hl1 : w.heap.size < w1.heap.size := Nat.lt_of_lt_of_le hw0 hb1.size
      clear hb1
      rw [hm]
      go_wp2_with fail
      refine (conr_any h A c w.heap.size R rs d _ HX1.out hl1 (HR.out.below HB1.out) hl).mono ?_
      rintro e w2 ⟨rfl, hb2⟩
      have HB2 := hid (HB1.out.trans (hb2.mono HB1.out.size))
      obtain ⟨x0, x1, x2⟩ := HX1.out.later hb2
      clear hb2
      rw [hv]
      go_wp2_with fail
      refine (reach_any h rs A R c d _ (HS.out.below HB2.out) (HR.out.below HB2.out) HM.out hl (List.all_eq_true.1 hv)).mono ?_
      rintro e w3 ⟨M, A3, c3, rfl, hown, hnd, hle, hmr, hb3⟩
      have HB3 := hid (HB2.out.trans (hb3.mono HB2.out.size))
      have HO := hid hown
      have HSL := hid (sort_live hnd hmr)
      have hz := hb3.size
      clear hown hnd hmr hb3 x0 x1 x2
      go_wp2_with fail
      refine (sort_row M A3 c3 _ _ HO.out hz hle).mono ?_
      rintro e w4 ⟨rfl, hown, hb4⟩
      rw [HSL.out] at hown
      have HO4 := hid hown
      have HB4 := hid (HB3.out.trans (hb4.mono HB2.out.size))
      have hll : (liveL h rs).length = M.length := by have := congrArg List.length HSL.out; simpa using this.symm
      clear hown hb4
      go_wp2_with fail
      go_ret2
      have hO := HO4.out
      rw [← hll] at hO ⊢
      exact ⟨A3, c3, rfl, own_ints hO, own_nil hO, own_cap hO, HB4.out⟩
noncomputable def mhB (h : Hp) (rs : List Int) (v : Int) : Bool := atB v && decide (atV v ∈ liL h rs)
theorem liL_len (h : Hp) (rs : List Int) : (liL h rs).length ≤ h.objs.length := by
  unfold liL
  split
  · rw [liveL_length]; exact liveN_le h rs
  · exact Nat.zero_le _
/-- R.Ints -/
theorem rints_any (xs ys : List Int) (A B : Option Addr) (c d : Nat) (w : World) (ha : IntsR w A xs) (hb : IntsR w B ys) (hx : xs.length ≤ 9223372036854775807) :
    Calls Try.prog 43 #[.slice A xs.length c, .slice B ys.length d] w fun e w' => e = .returned (.bool (decide (xs = ys))) ∧ Below w.heap.size w w' := by
  have HA := hid ha
  have HB := hid hb
  clear ha hb
  by_cases hlen : xs.length = ys.length
  · go_enter Try.func43, Try.ntmps43
    go_wp2
    go_loopw [5] (fun i wr => ∃ k : Nat, k ≤ xs.length ∧ i = .int .i64 k ∧ xs.take k = ys.take k ∧ Below w.heap.size w wr) (fun i _ => xs.length - (intOf i).toNat)
    case atStart => exact ⟨0, Nat.zero_le _, rfl, rfl, Below.refl _ _⟩
    case round =>
      obtain ⟨k, hk, rfl, heq, hbw⟩ := hrel
      have HW := hid hbw
      have HE := hid heq
      clear hbw heq
      by_cases hlt : k < xs.length
      · obtain ⟨bs, os, rfl, hbs, hcs⟩ := HA.out (by omega)
        obtain ⟨bt, ot, rfl, hbt, hct⟩ := HB.out (by omega)
        have hlt' : k < ys.length := by omega
        have hcell : wr.cell? ⟨bs, os + k, none⟩ = some (.int .i64 xs[k]) := (HW.out.cell (p := ⟨bs, os + k, none⟩) hbs).trans (hcs k _ (List.getElem?_eq_getElem hlt))
        have hcelt : wr.cell? ⟨bt, ot + k, none⟩ = some (.int .i64 ys[k]) := (HW.out.cell (p := ⟨bt, ot + k, none⟩) hbt).trans (hct k _ (List.getElem?_eq_getElem hlt'))
        clear hcs hct
        by_cases he : xs[k] = ys[k]
        · have HXY : Hid (xs.take (k + 1) = ys.take (k + 1)) := by show _ = _; rw [List.take_succ_eq_append_getElem hlt, List.take_succ_eq_append_getElem hlt', HE.out, he]
          rw [he] at hcell
          go_wp2
          go_quiet (fail)
          go_wp2
          go_roundw
          case rel => exact ⟨k + 1, by omega, by go_num, HXY.out, below_go HW.out HW.out.size (below_drewN _ _)⟩
          case measure => simp [intOf]; omega
        · have hne : (xs[k] != ys[k]) = true := by simpa using he
          have HNE := hid he
          go_wp2
          go_quiet (fail)
          go_wp2
          go_ret
          refine ⟨?_, below_go HW.out HW.out.size (below_drewN _ _)⟩
          have : ¬ xs = ys := fun e => HNE.out (by simp [e])
          simp [this]
      · have hkn : k = xs.length := by omega
        go_wp2
        go_ret
        refine ⟨?_, HW.out⟩
        have : xs = ys := by
          have := HE.out
          rwa [hkn, List.take_length, hlen, List.take_length] at this
        simp [this]
  · have hne : ¬ ((xs.length : Int) = ys.length) := by omega
    have hne2 : ¬ xs = ys := fun e => hlen (by rw [e])
    go_enter Try.func43, Try.ntmps43
    go_wp2
    go_ret
    exact ⟨by simp [hne2], Below.refl _ _⟩
/-- R4.In -/
theorem in_any (L : List Int) (x : Int) (A : Option Addr) (c : Nat) (w : World) (hs : IntsR w A L) (hl : L.length ≤ 9223372036854775807) :
    Calls Try.prog 47 #[.slice A L.length c, .int .i64 x] w fun e w' => e = .returned (.bool (decide (x ∈ L))) ∧ Below w.heap.size w w' := by
  have HS := hid hs
  clear hs
  go_enter Try.func47, Try.ntmps47
  go_wp2
  go_loopw [5] (fun i wr => ∃ k : Nat, k ≤ L.length ∧ i = .int .i64 k ∧ x ∉ L.take k ∧ Below w.heap.size w wr) (fun i _ => L.length - (intOf i).toNat)
  case atStart => exact ⟨0, Nat.zero_le _, rfl, by simp, Below.refl _ _⟩
  case round =>
    obtain ⟨k, hk, rfl, hno, hbw⟩ := hrel
    have HW := hid hbw
    have HN := hid hno
    clear hbw hno
    by_cases hlt : k < L.length
    · obtain ⟨bs, os, rfl, hbs, hcs⟩ := HS.out (by omega)
      have hcell : wr.cell? ⟨bs, os + k, none⟩ = some (.int .i64 L[k]) := (HW.out.cell (p := ⟨bs, os + k, none⟩) hbs).trans (hcs k _ (List.getElem?_eq_getElem hlt))
      clear hcs
      by_cases he : L[k] = x
      · have hcx : Hid (decide (x ∈ L) = true) := by show _ = _; rw [decide_eq_true_eq, ← he]; exact List.getElem_mem hlt
        rw [he] at hcell
        go_wp2
        go_ret
        exact ⟨by rw [hcx.out]; rfl, HW.out⟩
      · have hne : (L[k] == x) = false := by simpa using he
        have HNX : Hid (x ∉ L.take (k + 1)) := by
          show ¬ _
          rw [List.take_succ_eq_append_getElem hlt]
          simp only [List.mem_append, List.mem_singleton, not_or]
          exact ⟨HN.out, fun e => he e.symm⟩
        go_wp2
        go_roundw
        case rel => exact ⟨k + 1, by omega, by go_num, HNX.out, HW.out⟩
        case measure => simp [intOf]; omega
    · have hkn : k = L.length := by omega
      have hcx : Hid (decide (x ∈ L) = false) := by
        show _ = _
        have := HN.out
        rw [hkn, List.take_length] at this
        exact decide_eq_false this
      go_wp2
      go_ret
      exact ⟨by rw [hcx.out]; rfl, HW.out⟩
end Go.Proofs.Ytelljlmjhnjpiaa
