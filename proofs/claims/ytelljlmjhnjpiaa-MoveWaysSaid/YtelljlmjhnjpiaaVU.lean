/- The document's place, Table and Values walked. -/
import Derived.Test.YtelljlmjhnjpiaaVT
import Derived.Test.YtelljlmjhnjpiaaNL
namespace Go.Proofs.Ytelljlmjhnjpiaa
open Go.RowKit
set_option maxRecDepth 100000
theorem plI_succ (L : List Int) (x : Int) (k : Nat) (hk : k < L.length) : plI (L.take (k + 1)) x = plI (L.take k) x + if L[k] < x then 1 else 0 := by
  unfold plI
  rw [List.take_succ_eq_append_getElem hk, List.filter_append, List.length_append]
  congr 1
  by_cases g : L[k] < x
  · rw [if_pos g, List.filter_cons_of_pos (by simpa using g)]; rfl
  · rw [if_neg g, List.filter_cons_of_neg (by simpa using g)]; rfl
theorem place5_any (L : List Int) (x : Int) (A : Option Addr) (c : Nat) (w : World) (hs : IntsR w A L) (hl : L.length ≤ 100000) :
    Calls Try.prog 71 #[.slice A L.length c, .int .i64 x] w fun e w' => e = .returned (.int .i64 (plI L x)) ∧ w = w' := by
  have HS := hid hs
  clear hs
  go_enter Try.func71, Try.ntmps71
  go_wp2
  go_loopw [5, 6] (fun s i wr => ∃ k : Nat, k ≤ L.length ∧ i = .int .i64 k ∧ s = .int .i64 (plI (L.take k) x) ∧ wr = w) (fun _ i _ => L.length - (intOf i).toNat)
  case atStart => exact ⟨0, Nat.zero_le _, rfl, rfl, rfl⟩
  case round =>
    obtain ⟨k, hk, rfl, rfl, rfl⟩ := hrel
    have hpk : plI (L.take k) x ≤ k := by have := plI_le (L.take k) x; rw [List.length_take] at this; omega
    by_cases hlt : k < L.length
    · obtain ⟨b, o, rfl, hb, hc⟩ := HS.out (by omega)
      have hcell := hc k _ (List.getElem?_eq_getElem hlt)
      have hps := plI_succ L x k hlt
      clear hc
      by_cases he : L[k] < x
      · rw [if_pos he] at hps
        have HPS := hid hps
        clear hps
        go_wp2
        go_roundw
        case rel => exact ⟨k + 1, by omega, by go_num, by rw [HPS.out]; go_num, by first | rfl | trivial⟩
        case measure => simp [intOf]; omega
      · rw [if_neg he] at hps
        have HPS : Hid (plI (L.take (k + 1)) x = plI (L.take k) x) := hps
        have he2 : x ≤ L[k] := by omega
        clear hps he
        go_wp2
        go_roundw
        case rel => exact ⟨k + 1, by omega, by go_num, by rw [HPS.out], by first | rfl | trivial⟩
        case measure => simp [intOf]; omega
    · obtain rfl : k = L.length := by omega
      go_wp2
      go_ret
      exact ⟨by rw [List.take_length]; rfl, rfl⟩
def rangeF (f : Nat → Int) (k : Nat) : List Int := (List.range k).map f
theorem rangeF_len (f : Nat → Int) (k : Nat) : (rangeF f k).length = k := by simp [rangeF]
theorem range_succ_map (f : Nat → Int) (k : Nat) : rangeF f (k + 1) = rangeF f k ++ [f k] := by unfold rangeF; rw [List.range_succ, List.map_append]; rfl
theorem tab_nat {h : Hp} {rs : List Int} {k : Nat} :
    ((k : Int) ∈ liveL h rs ∧ newK (liveN h rs) (liveN h rs).length k = (plI (liveL h rs) k : Int)) ∨ ((k : Int) ∉ liveL h rs ∧ newK (liveN h rs) (liveN h rs).length k = -1) := by
  by_cases g : k ∈ liveN h rs
  · exact .inl ⟨mem_liveL_nat.2 g, by rw [newK_in g, plI_live g]⟩
  · exact .inr ⟨fun m => g (mem_liveL_nat.1 m), newK_out g⟩
set_option maxHeartbeats 2000000 in
theorem rtable_any (h : Hp) (rs : List Int) (A R : Option Addr) (c d : Nat) (w : World) (hs : ObsR w A h.objs) (fit : h.Fit) (hr : IntsR w R rs) (hl : rs.length ≤ 9223372036854775807) :
    Calls Try.prog 38 #[.agg #[.slice A h.objs.length c, .int .i64 h.cap, .int .i64 h.last], .slice R rs.length d] w (IntsTwo w (tabL h rs) (liE h rs)) := by
  have HB0 := hid (below_alloc w (.cells #[Value.slice A h.objs.length c, Value.int .i64 h.cap, Value.int .i64 h.last] 24))
  have X0 := hid (Lies.new w 24 #[Value.slice A h.objs.length c, Value.int .i64 h.cap, Value.int .i64 h.last])
  have HS := hid hs
  have HF := hid fit
  have HR := hid hr
  clear hs fit hr
  by_cases he : liE h rs = 0
  · have hle := may_len (li_ok he).1
    have HT := hid (tabL_yes he)
    have HTN : Hid (∀ k, k < h.objs.length → ((k : Int) ∈ liveL h rs ∧ newK (liveN h rs) (liveN h rs).length k = (plI (liveL h rs) k : Int)) ∨ ((k : Int) ∉ liveL h rs ∧ newK (liveN h rs) (liveN h rs).length k = -1)) := fun k _ => tab_nat
    have hlN := liveN_le h rs
    have hLe := liveL_length h rs
    have HLL : Hid (liL h rs = liveL h rs) := (li_ok he).2.2
    obtain ⟨L, hL⟩ : ∃ L, L = liveL h rs := ⟨_, rfl⟩
    obtain ⟨f, hf⟩ : ∃ f, f = newK (liveN h rs) (liveN h rs).length := ⟨_, rfl⟩
    rw [← hL] at HTN hLe HLL
    rw [← hf] at HTN HT
    rw [he]
    go_enter Try.func38, Try.ntmps38
    go_wp2_with fail
    refine (rlive_any h rs A R c d _ (HS.out.below HB0.out) HF.out (HR.out.below HB0.out) hl).mono ?_
    rintro e w1 ⟨A1, c1, rfl, hi1, -, -, hb1⟩
    rw [he, HLL.out]
    rw [HLL.out] at hi1
    have HB1 := hid (HB0.out.trans (hb1.mono (by simp)))
    have X1 := hid (X0.out.later hb1)
    have HI1 := hid hi1
    have hL256 : L.length ≤ 256 := by omega
    have hw01 : w.heap.size < w1.heap.size := X1.out.lt
    clear hi1 hb1 hL hf hLe hlN
    have EE := hid (own_empty w1)
    have EB := hid (below_alloc w1 (.cells #[] 3))
    have XE := hid (X1.out.later EB.out)
    go_wp2_with fail
    go_loopw [9, 8] (fun i s wr => ∃ (k : Nat) (A3 : Option Addr) (c3 : Nat), k ≤ h.objs.length ∧ i = .int .i64 k ∧ s = .slice A3 (rangeF f k).length c3 ∧ wr.ownsRow w1.heap.size 3 1 (.slice A3 (rangeF f k).length c3) (rangeF f k).length ((rangeF f k).map (Value.int .i64)) ∧ Lies wr w.heap.size 24 #[Value.slice A h.objs.length c, Value.int .i64 h.cap, Value.int .i64 h.last] ∧ Below w1.heap.size w1 wr) (fun i _ _ => h.objs.length - (intOf i).toNat)
    case atStart => exact ⟨0, _, _, Nat.zero_le _, rfl, rfl, EE.out, XE.out, EB.out⟩
    case round =>
      clear EE EB XE
      obtain ⟨k, A3, c3, hk, rfl, rfl, hown, hbox, hbw⟩ := hrel
      rename World => wj
      have HW := hid hbw
      have HO := hid hown
      have HX := hid hbox
      have hpl := Nat.le_of_eq (rangeF_len f k)
      have x0 := hbox.cell 0
      simp only [List.getElem?_toArray, List.getElem?_cons_zero] at x0
      clear hown hbw hbox
      by_cases hlt : k < h.objs.length
      · go_wp2_with fail
        refine (in_any L k A1 c1 wj (HI1.out.below HW.out) (by omega)).mono ?_
        rintro e w2 ⟨rfl, hb2⟩
        have HW2 := hid (HW.out.trans (hb2.mono HW.out.size))
        have HO2 := hid (own_later HO.out hb2)
        have HX2 := hid (HX.out.later hb2)
        have hz := HW2.out.size
        have HRS := hid (range_succ_map f k)
        clear hb2 x0
        rcases HTN.out k hlt with ⟨hin, hfk⟩ | ⟨hin, hfk⟩
        · rw [decide_eq_true hin]
          have HFK := hid hfk
          clear hin hfk
          go_wp2_with fail
          refine (place5_any L k A1 c1 w2 (HI1.out.below HW2.out) (by omega)).mono ?_
          rintro e w3 ⟨rfl, rfl⟩
          rw [← HFK.out]
          have HAL := hid (below_alloc w2 (.cells #[.int .i64 (f k)] 3))
          have HO3 := hid (own_later HO2.out HAL.out)
          have HN := hid (Lies.new w2 3 #[.int .i64 (f k)])
          have hz2 : w1.heap.size ≤ (w2.alloc (.cells #[.int .i64 (f k)] 3)).heap.size := by simp; omega
          go_wp2_with (at_builtin; refine wpList_append_one rfl (.tmp 30) (.tmp 34) rfl w1.heap.size _ _ _ rfl HO3.out _ _ rfl HN.out (by omega) hz2 ?_)
          intro v' w' h1 h2
          obtain ⟨A4, c4, rfl⟩ := own_form h1
          have hps := congrArg List.length HRS.out
          rw [List.length_append, List.length_singleton] at hps
          have h1 : w'.ownsRow w1.heap.size 3 1 (.slice A4 (rangeF f (k + 1)).length c4) (rangeF f (k + 1)).length ((rangeF f (k + 1)).map (Value.int .i64)) := by rw [hps, HRS.out, List.map_append]; exact h1
          have hb2 := HW2.out.trans ((HAL.out.mono hz).grown h2 hz2 (fun q hq => (HO3.out.lt q hq).1))
          have hx4 := (HX2.out.later HAL.out).grown h2 (fun e => own_blk_ne HO3.out (HX2.out.later HAL.out) (by decide) e.symm)
          have H1 := hid h1
          have HB2 := hid hb2
          have HX4 := hid hx4
          have HPL := hid hps
          clear h1 h2 hb2 hps hx4
          go_wp2_with fail
          go_roundw
          case rel => exact ⟨k + 1, A4, c4, by omega, by go_num, by rw [HPL.out], H1.out, HX4.out, HB2.out⟩
          case measure => simp [intOf]; omega
        · rw [decide_eq_false hin]
          have HFK := hid hfk
          clear hin hfk
          have HAL := hid (below_alloc w2 (.cells #[.int .i64 (-1)] 3))
          have HO3 := hid (own_later HO2.out HAL.out)
          have HN := hid (Lies.new w2 3 #[.int .i64 (-1)])
          have hz2 : w1.heap.size ≤ (w2.alloc (.cells #[.int .i64 (-1)] 3)).heap.size := by simp; omega
          go_wp2_with (at_builtin; refine wpList_append_one rfl (.tmp 36) (.tmp 37) rfl w1.heap.size _ _ _ rfl HO3.out _ _ rfl HN.out (by omega) hz2 ?_)
          intro v' w' h1 h2
          obtain ⟨A4, c4, rfl⟩ := own_form h1
          have hps := congrArg List.length HRS.out
          rw [List.length_append, List.length_singleton] at hps
          have h1 : w'.ownsRow w1.heap.size 3 1 (.slice A4 (rangeF f (k + 1)).length c4) (rangeF f (k + 1)).length ((rangeF f (k + 1)).map (Value.int .i64)) := by rw [hps, HRS.out, HFK.out, List.map_append]; exact h1
          have hb2 := HW2.out.trans ((HAL.out.mono hz).grown h2 hz2 (fun q hq => (HO3.out.lt q hq).1))
          have hx4 := (HX2.out.later HAL.out).grown h2 (fun e => own_blk_ne HO3.out (HX2.out.later HAL.out) (by decide) e.symm)
          have H1 := hid h1
          have HB2 := hid hb2
          have HX4 := hid hx4
          have HPL := hid hps
          clear h1 h2 hb2 hps hx4
          go_wp2_with fail
          go_roundw
          case rel => exact ⟨k + 1, A4, c4, by omega, by go_num, by rw [HPL.out], H1.out, HX4.out, HB2.out⟩
          case measure => simp [intOf]; omega
      · obtain rfl : k = h.objs.length := by omega
        go_wp2_with fail
        go_ret2
        rw [HT.out]
        show IntsTwo w (rangeF f h.objs.length) 0 _ _
        exact ⟨A3, c3, rfl, own_ints HO.out, own_nil HO.out, own_cap HO.out, then_b HB1.out HW.out⟩
  · have e1 : tabL h rs = [] := tabL_no he
    have e2 : liL h rs = [] := by unfold liL; rw [if_neg he]
    have hne : (liE h rs != 0) = true := by simpa using he
    rw [e1]
    obtain ⟨en, hen⟩ : ∃ en, en = liE h rs := ⟨_, rfl⟩
    rw [← hen] at hne ⊢
    have HEN := hid hen
    clear e1 hen he
    go_enter Try.func38, Try.ntmps38
    go_wp2_with fail
    refine (rlive_any h rs A R c d _ (HS.out.below HB0.out) HF.out (HR.out.below HB0.out) hl).mono ?_
    rintro e w1 ⟨A1, c1, rfl, -, -, -, hb1⟩
    rw [← HEN.out]
    have HB1 := hid (HB0.out.trans (hb1.mono (by simp)))
    clear hb1
    go_wp2_with fail
    go_ret2
    exact ⟨none, 0, rfl, fun hn => by simp at hn, fun _ => rfl, Nat.le_refl _, HB1.out⟩
def takeF (t l : List Int) (k : Nat) : List Int := (l.take k).map (vaV t)
theorem takeF_all (t l : List Int) : takeF t l l.length = l.map (vaV t) := by unfold takeF; rw [List.take_length]
theorem take_map (t l : List Int) (k : Nat) (hk : k < l.length) : takeF t l (k + 1) = takeF t l k ++ [vaV t l[k]] := by
  unfold takeF
  rw [List.take_succ_eq_append_getElem hk, List.map_append]; rfl
set_option maxHeartbeats 2000000 in
theorem rvalues_any (t l : List Int) (A B : Option Addr) (c d : Nat) (w : World) (ht : IntsR w A t) (hl : IntsR w B l) (htl : t.length ≤ 9223372036854775807) (hll : l.length ≤ 100000) :
    Calls Try.prog 74 #[.slice A t.length c, .slice B l.length d] w (IntsOwn w (l.map (vaV t))) := by
  have HT := hid ht
  have HL := hid hl
  clear ht hl
  have EE := hid (own_empty w)
  have EB := hid (below_alloc w (.cells #[] 3))
  go_enter Try.func74, Try.ntmps74
  go_wp2_with fail
  go_loopw [6, 5] (fun i s wr => ∃ (k : Nat) (A3 : Option Addr) (c3 : Nat), k ≤ l.length ∧ i = .int .i64 k ∧ s = .slice A3 (takeF t l k).length c3 ∧ wr.ownsRow w.heap.size 3 1 (.slice A3 (takeF t l k).length c3) (takeF t l k).length ((takeF t l k).map (Value.int .i64)) ∧ Below w.heap.size w wr) (fun i _ _ => l.length - (intOf i).toNat)
  case atStart => exact ⟨0, _, _, Nat.zero_le _, rfl, rfl, EE.out, EB.out⟩
  case round =>
    clear EE EB
    obtain ⟨k, A3, c3, hk, rfl, rfl, hown, hbw⟩ := hrel
    rename World => wj
    have HW := hid hbw
    have HO := hid hown
    have hpl : (takeF t l k).length ≤ k := by unfold takeF; rw [List.length_map, List.length_take]; omega
    clear hown hbw
    by_cases hlt : k < l.length
    · obtain ⟨b, o, rfl, hb, hc⟩ := HL.out (by omega)
      have hcell := (HW.out.cell (p := ⟨b, o + k, none⟩) hb).trans (hc k _ (List.getElem?_eq_getElem hlt))
      clear hc
      go_wp2_with fail
      refine (rvalue_any t l[k] A c _ (HT.out.below HW.out) htl).mono ?_
      rintro e w2 ⟨rfl, rfl⟩
      have HRS := hid (take_map t l k hlt)
      have hz := HW.out.size
      have HAL := hid (below_alloc w2 (.cells #[.int .i64 (vaV t l[k])] 3))
      have HO3 := hid (own_later HO.out HAL.out)
      have HN := hid (Lies.new w2 3 #[.int .i64 (vaV t l[k])])
      have hz2 : w.heap.size ≤ (w2.alloc (.cells #[.int .i64 (vaV t l[k])] 3)).heap.size := by simp; omega
      go_wp2_with (at_builtin; refine wpList_append_one rfl (.tmp 25) (.tmp 27) rfl w.heap.size _ _ _ rfl HO3.out _ _ rfl HN.out (by omega) hz2 ?_)
      intro v' w' h1 h2
      obtain ⟨A4, c4, rfl⟩ := own_form h1
      have hps := congrArg List.length HRS.out
      rw [List.length_append, List.length_singleton] at hps
      have h1 : w'.ownsRow w.heap.size 3 1 (.slice A4 (takeF t l (k + 1)).length c4) (takeF t l (k + 1)).length ((takeF t l (k + 1)).map (Value.int .i64)) := by rw [hps, HRS.out, List.map_append]; exact h1
      have hb2 := HW.out.trans ((HAL.out.mono hz).grown h2 hz2 (fun q hq => (HO3.out.lt q hq).1))
      have H1 := hid h1
      have HB2 := hid hb2
      have HPL := hid hps
      clear h1 h2 hb2 hps
      go_wp2_with fail
      go_roundw
      case rel => exact ⟨k + 1, A4, c4, by omega, by go_num, by rw [HPL.out], H1.out, HB2.out⟩
      case measure => simp [intOf]; omega
    · obtain rfl : k = l.length := by omega
      go_wp2_with fail
      go_ret
      have hO := HO.out
      rw [takeF_all] at hO
      exact ⟨A3, c3, by rw [takeF_all]; rfl, hO, HW.out⟩
end Go.Proofs.Ytelljlmjhnjpiaa
