/- The document's fixed calls of move: true. -/
import Derived.Test.YtelljlmjhnjpiaaVF
import Derived.Test.YtelljlmjhnjpiaaS
namespace Go.Proofs.Ytelljlmjhnjpiaa
open Go.RowKit
set_option maxRecDepth 100000
theorem table5 {h : Hp} {rs L : List Int} {en : Int} (hl : tabL h rs = L) (he : liE h rs = en) (A R : Option Addr) (c d : Nat) (w : World) (hs : ObsR w A h.objs) (fit : h.Fit) (hr : IntsR w R rs) (hk : rs.length ≤ 9223372036854775807) :
    Calls Try.prog 37 #[.agg #[.slice A h.objs.length c, .int .i64 h.cap, .int .i64 h.last], .slice R rs.length d] w (IntsTwo w L en) := by subst hl he; exact table_any h rs A R c d w hs fit hr hk
theorem compact5 {h k : Hp} {rs L : List Int} {en : Int} (hc : coH h rs = k) (hl : coL h rs = L) (he : liE h rs = en) (A R : Option Addr) (c d : Nat) (w : World) (hs : ObsR w A h.objs) (fit : h.Fit) (hr : IntsR w R rs) (hk : rs.length ≤ 100000) :
    Calls Try.prog 39 #[.agg #[.slice A h.objs.length c, .int .i64 h.cap, .int .i64 h.last], .slice R rs.length d] w (HeapInts w k L en) := by subst hc hl he; exact compact_any h rs A R c d w hs fit hr hk
theorem ints5 {xs ys : List Int} (e : xs = ys) (A B : Option Addr) (c d : Nat) (w : World) (ha : IntsR w A xs) (hb : IntsR w B ys) (hx : xs.length ≤ 9223372036854775807) :
    Calls Try.prog 43 #[.slice A xs.length c, .slice B ys.length d] w fun e w' => e = .returned (.bool true) ∧ Below w.heap.size w w' := by
  have := rints_any xs ys A B c d w ha hb hx
  simpa [e] using this
set_option maxHeartbeats 1000000 in
theorem fixed5_any (w : World) : Calls Try.prog 36 #[] w fun e w' => e = .returned (.bool true) ∧ Below w.heap.size w w' := by
  go_enter Try.func36, Try.ntmps36
  go_wp2_with fail
  refine (three_any w).mono ?_
  rintro e w1 ⟨A1, c1, rfl, ho, hb⟩
  have O1 := hid ho
  have B1 := hid hb
  clear ho hb
  go_wp2_with fail
  have HAL := hid (below_alloc w1 (.cells #[.int .i64 4] 3))
  refine (table5 m5_t1 m5_e1 A1 (some ⟨w1.heap.size, 0, none⟩) c1 1 _ (O1.out.below HAL.out) fit5 (at_one w1 4) (by decide)).mono ?_
  rintro e w2 ⟨A2, c2, rfl, hi, -, -, hb⟩
  have HT := hid (then_b HAL.out hb)
  have B2 := hid (then_b B1.out HT.out)
  have LA2 := hid hi
  clear hi hb HAL HT
  go_wp2_with fail
  refine (three_any _).mono ?_
  rintro e w3 ⟨A3, c3, rfl, ho, hb⟩
  have HT := hid (hb)
  have LA3 := hid (LA2.out.below HT.out)
  have B3 := hid (then_b B2.out HT.out)
  have O3 := hid ho
  clear ho hb HT
  go_wp2_with fail
  have HAL := hid (below_alloc w3 (.cells #[.int .i64 4, .int .i64 5] 3))
  refine (compact5 m5_c m5_l m5_e2 A3 (some ⟨w3.heap.size, 0, none⟩) c3 2 _ (O3.out.below HAL.out) fit5 (at_two w3 4 5) (by decide)).mono ?_
  rintro e w4 ⟨A4, c4, R4, d4, rfl, ho, hi, hb⟩
  have HT := hid (then_b HAL.out hb)
  have LA4 := hid (LA3.out.below HT.out)
  have B4 := hid (then_b B3.out HT.out)
  have OB4 := hid ho
  have LB4 := hid hi
  clear ho hi hb HAL HT
  go_wp2_with fail
  obtain ⟨w5, hw5⟩ : ∃ w5, w5 = w4.alloc (.cells #[Value.slice A4 N5.objs.length c4, Value.int .i64 N5.cap, Value.int .i64 N5.last] 24) := ⟨_, rfl⟩
  have HT : Hid (Below w4.heap.size w4 w5) := by show Below _ _ _; rw [hw5]; exact below_alloc _ _
  have LA5 := hid (LA4.out.below HT.out)
  have OB5 := hid (OB4.out.below HT.out)
  have LB5 := hid (LB4.out.below HT.out)
  have B5 := hid (then_b B4.out HT.out)
  have G5 : Hid (Lies w5 w4.heap.size 24 #[Value.slice A4 N5.objs.length c4, Value.int .i64 N5.cap, Value.int .i64 N5.last]) := by show Lies w5 w4.heap.size 24 #[Value.slice A4 N5.objs.length c4, Value.int .i64 N5.cap, Value.int .i64 N5.last]; rw [hw5]; exact Lies.new _ _ _
  rw [← hw5]
  clear HT hw5
  refine (three_any _).mono ?_
  rintro e w6 ⟨A6, c6, rfl, ho, hb⟩
  have HT := hid (hb)
  have LA6 := hid (LA5.out.below HT.out)
  have OB6 := hid (OB5.out.below HT.out)
  have LB6 := hid (LB5.out.below HT.out)
  have G6 := hid (G5.out.later HT.out)
  have B6 := hid (then_b B5.out HT.out)
  have O6 := hid ho
  clear ho hb HT
  go_wp2_with fail
  have HAL := hid (below_alloc w6 (.cells #[.int .i64 6] 3))
  refine (compact5 m5_c3 m5_l3 m5_e3 A6 (some ⟨w6.heap.size, 0, none⟩) c6 1 _ (O6.out.below HAL.out) fit5 (at_one w6 6) (by decide)).mono ?_
  rintro e w7 ⟨A7, c7, R7, d7, rfl, -, -, hb⟩
  have HT := hid (then_b HAL.out hb)
  have LA7 := hid (LA6.out.below HT.out)
  have OB7 := hid (OB6.out.below HT.out)
  have LB7 := hid (LB6.out.below HT.out)
  have G7 := hid (G6.out.later HT.out)
  have B7 := hid (then_b B6.out HT.out)
  clear hb HAL HT
  go_wp2_with fail
  obtain ⟨w8, hw8⟩ : ∃ w8, w8 = w7.alloc (.cells #[Value.slice A7 zeroH.objs.length c7, Value.int .i64 zeroH.cap, Value.int .i64 zeroH.last] 24) := ⟨_, rfl⟩
  have HT : Hid (Below w7.heap.size w7 w8) := by show Below _ _ _; rw [hw8]; exact below_alloc _ _
  have LA8 := hid (LA7.out.below HT.out)
  have OB8 := hid (OB7.out.below HT.out)
  have LB8 := hid (LB7.out.below HT.out)
  have G8 := hid (G7.out.later HT.out)
  have B8 := hid (then_b B7.out HT.out)
  rw [← hw8]
  have hz8 : w8.heap.size = w7.heap.size + 1 := by rw [hw8]; simp
  rw [← hz8]
  clear hz8
  clear HT hw8
  have I9 := hid (at_three w8 0 (-1) 1)
  obtain ⟨w9, hw9⟩ : ∃ w9, w9 = w8.alloc (.cells #[.int .i64 0, .int .i64 (-1), .int .i64 1] 3) := ⟨_, rfl⟩
  have HT : Hid (Below w8.heap.size w8 w9) := by show Below _ _ _; rw [hw9]; exact below_alloc _ _
  have LA9 := hid (LA8.out.below HT.out)
  have OB9 := hid (OB8.out.below HT.out)
  have LB9 := hid (LB8.out.below HT.out)
  have G9 := hid (G8.out.later HT.out)
  have B9 := hid (then_b B8.out HT.out)
  rw [← hw9] at I9 ⊢
  clear HT hw9
  refine (value_any [0, -1, 1] 4 (some ⟨w8.heap.size, 0, none⟩) 3 _ I9.out (by decide)).mono ?_
  rintro e w9' ⟨rfl, hw⟩
  rw [v5_1, v5_2, hw]
  clear hw I9
  go_wp2_with fail
  have I10 := hid (at_three w9 0 (-1) 1)
  obtain ⟨w10, hw10⟩ : ∃ w10, w10 = w9.alloc (.cells #[.int .i64 0, .int .i64 (-1), .int .i64 1] 3) := ⟨_, rfl⟩
  have HT : Hid (Below w9.heap.size w9 w10) := by show Below _ _ _; rw [hw10]; exact below_alloc _ _
  have LA10 := hid (LA9.out.below HT.out)
  have OB10 := hid (OB9.out.below HT.out)
  have LB10 := hid (LB9.out.below HT.out)
  have G10 := hid (G9.out.later HT.out)
  have B10 := hid (then_b B9.out HT.out)
  rw [← hw10] at I10 ⊢
  clear HT hw10
  refine (value_any [0, -1, 1] 2 (some ⟨w9.heap.size, 0, none⟩) 3 _ I10.out (by decide)).mono ?_
  rintro e w10' ⟨rfl, hw⟩
  rw [v5_3, v5_4, hw]
  clear hw I10
  go_wp2_with fail
  obtain ⟨w11, hw11⟩ : ∃ w11, w11 = (w10.alloc (.cells #[.int .i64 2, .int .i64 5, .int .i64 0] 3)).alloc (.cells #[.int .i64 0, .int .i64 0, .slice none 0 0, .string ⟨#[]⟩, .int .i64 0, .int .i64 0, .int .i64 0, .int .i64 0, .slice (some ⟨w10.heap.size, 0, none⟩) 3 3, .string ⟨#[]⟩, .int .i64 0, .int .i64 9] 46) := ⟨_, rfl⟩
  have ON11 : Hid (ObsR w11 (some ⟨w10.heap.size + 1, 0, none⟩) N5.objs) := by show ObsR _ _ _; rw [hw11]; exact n5_start w10
  have hz11 : w11.heap.size = w10.heap.size + 1 + 1 := by rw [hw11]; simp
  have HT : Hid (Below w10.heap.size w10 w11) := by show Below _ _ _; rw [hw11]; exact (below_alloc w10 _).alloc (by simp) _
  have LA11 := hid (LA10.out.below HT.out)
  have OB11 := hid (OB10.out.below HT.out)
  have LB11 := hid (LB10.out.below HT.out)
  have G11 := hid (G10.out.later HT.out)
  have B11 := hid (then_b B10.out HT.out)
  rw [← hw11, ← hz11]
  clear HT hz11 hw11
  obtain ⟨w12, hw12⟩ : ∃ w12, w12 = w11.alloc (.cells #[.slice (some ⟨w10.heap.size + 1, 0, none⟩) 2 2, .int .i64 3, .int .i64 7] 24) := ⟨_, rfl⟩
  have HT : Hid (Below w11.heap.size w11 w12) := by show Below _ _ _; rw [hw12]; exact below_alloc _ _
  have LA12 := hid (LA11.out.below HT.out)
  have OB12 := hid (OB11.out.below HT.out)
  have LB12 := hid (LB11.out.below HT.out)
  have G12 := hid (G11.out.later HT.out)
  have ON12 := hid (ON11.out.below HT.out)
  have B12 := hid (then_b B11.out HT.out)
  have H12 : Hid (Lies w12 w11.heap.size 24 #[.slice (some ⟨w10.heap.size + 1, 0, none⟩) 2 2, .int .i64 3, .int .i64 7]) := by show Lies w12 w11.heap.size 24 #[.slice (some ⟨w10.heap.size + 1, 0, none⟩) 2 2, .int .i64 3, .int .i64 7]; rw [hw12]; exact Lies.new _ _ _
  rw [← hw12]
  have hz12 : w12.heap.size = w11.heap.size + 1 := by rw [hw12]; simp
  rw [← hz12]
  clear hz12
  clear HT hw12
  have HAL := hid (below_alloc w12 (.cells #[.int .i64 0, .int .i64 (-1), .int .i64 1] 3))
  refine (ints5 (xs := [0, -1, 1]) (ys := [0, -1, 1]) rfl A2 (some ⟨w12.heap.size, 0, none⟩) c2 3 _ (LA12.out.below HAL.out) (at_three w12 0 (-1) 1) (by decide)).mono ?_
  rintro e w13 ⟨rfl, hb⟩
  have HT := hid (then_b HAL.out hb)
  have LA13 := hid (LA12.out.below HT.out)
  have OB13 := hid (OB12.out.below HT.out)
  have LB13 := hid (LB12.out.below HT.out)
  have G13 := hid (G12.out.later HT.out)
  have ON13 := hid (ON12.out.below HT.out)
  have H13 := hid (H12.out.later HT.out)
  have B13 := hid (then_b B12.out HT.out)
  clear hb HAL HT
  have g0 := G13.out.cell 0
  have g1 := G13.out.cell 1
  have g2 := G13.out.cell 2
  have k0 := H13.out.cell 0
  have k1 := H13.out.cell 1
  have k2 := H13.out.cell 2
  simp only [List.getElem?_toArray, List.getElem?_cons_zero, List.getElem?_cons_succ] at g0 g1 g2 k0 k1 k2
  go_wp2_with fail
  clear g0 g1 g2 k0 k1 k2
  refine (same_any N5 A4 (some ⟨w10.heap.size + 1, 0, none⟩) c4 2 _ OB13.out ON13.out (may_fit n5_may)).mono ?_
  rintro e w14 ⟨rfl, hb⟩
  have HT := hid (hb)
  have LA14 := hid (LA13.out.below HT.out)
  have OB14 := hid (OB13.out.below HT.out)
  have LB14 := hid (LB13.out.below HT.out)
  have G14 := hid (G13.out.later HT.out)
  have ON14 := hid (ON13.out.below HT.out)
  have H14 := hid (H13.out.later HT.out)
  have B14 := hid (then_b B13.out HT.out)
  clear hb HT
  go_wp2_with fail
  have HAL := hid (below_alloc w14 (.cells #[.int .i64 2, .int .i64 5] 3))
  refine (ints5 (xs := [2, 5]) (ys := [2, 5]) rfl R4 (some ⟨w14.heap.size, 0, none⟩) d4 2 _ (LB14.out.below HAL.out) (at_two w14 2 5) (by decide)).mono ?_
  rintro e w15 ⟨rfl, hb⟩
  have HT := hid (then_b HAL.out hb)
  have LA15 := hid (LA14.out.below HT.out)
  have OB15 := hid (OB14.out.below HT.out)
  have LB15 := hid (LB14.out.below HT.out)
  have G15 := hid (G14.out.later HT.out)
  have ON15 := hid (ON14.out.below HT.out)
  have H15 := hid (H14.out.later HT.out)
  have B15 := hid (then_b B14.out HT.out)
  clear hb HAL HT
  go_wp2_with fail
  go_ret
  exact ⟨rfl, B15.out⟩
end Go.Proofs.Ytelljlmjhnjpiaa
