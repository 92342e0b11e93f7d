/- The calls whose answers the document fixes: all are as it says. -/
import Derived.Test.YtfdjghllnbiffaaSP9
namespace Go.Proofs.Ytfdjghllnbiffaa
open Go.RowKit
set_option maxRecDepth 100000
def o9 (l : List Int) : Ob := ⟨0, 0, l, ⟨#[]⟩, 0, 0⟩
def T9 : Hp := ⟨[o9 [], o9 [4, 6, 1], o9 [0, 8, 5], o9 [0, 21], o9 [0, 31, 2, 41, 2]], 9, 0⟩
theorem t9_fit : T9.Fit := ⟨by decide, fun o ho => by
  show o.slots.length ≤ _
  have : ∀ o ∈ T9.objs, o.slots.length ≤ 5 := by decide
  have := this o ho; omega⟩
theorem lies_ints9 {w : World} {g n : Nat} {l : List Int} {cs : Array Value} (hl : Lies w g 3 cs) (hc : cs.toList = l.map (Value.int .i64)) (_hn : l.length = n) : IntsR w (some ⟨g, 0, none⟩) l := fun _ => by
  refine ⟨g, 0, rfl, hl.lt, fun j x hx => ?_⟩
  rw [Nat.zero_add, hl.cell, ← Array.getElem?_toList, hc, List.getElem?_map, hx]; rfl
set_option maxHeartbeats 1000000 in
theorem tower_any9 (w : World) : Calls Try.prog 59 #[] w fun e w' => ∃ A c, e = .returned (.agg #[.slice A T9.objs.length c, .int .i64 T9.cap, .int .i64 T9.last]) ∧ ObsR w' A T9.objs ∧ Below w.heap.size w w' := by
  obtain ⟨W0, h0⟩ : ∃ u, u = w.alloc (.cells #[.slice (some ⟨w.heap.size + 1 + 1 + 1 + 1 + 1, 0, none⟩) 5 5, .int .i64 9, .int .i64 0] 24) := ⟨_, rfl⟩
  have s0 : W0.heap.size = w.heap.size + 1 := by rw [h0]; simp
  have HB0 : Hid (Below w.heap.size w W0) := by show Below _ _ _; rw [h0]; exact below_alloc _ _
  have L00 : Hid (Lies W0 (w.heap.size) 24 #[.slice (some ⟨w.heap.size + 1 + 1 + 1 + 1 + 1, 0, none⟩) 5 5, .int .i64 9, .int .i64 0]) := by show Lies _ _ _ _; rw [h0]; exact Lies.new _ _ _
  obtain ⟨W1, h1⟩ : ∃ u, u = W0.alloc (.cells #[.int .i64 4, .int .i64 6, .int .i64 1] 3) := ⟨_, rfl⟩
  have s1 : W1.heap.size = w.heap.size + 1 + 1 := by rw [h1]; simp [s0]
  have HB1 : Hid (Below w.heap.size w W1) := by show Below _ _ _; rw [h1]; exact HB0.out.alloc HB0.out.size _
  have L01 : Hid (Lies W1 (w.heap.size) 24 #[.slice (some ⟨w.heap.size + 1 + 1 + 1 + 1 + 1, 0, none⟩) 5 5, .int .i64 9, .int .i64 0]) := by show Lies _ _ _ _; rw [h1]; exact L00.out.alloc _
  have L11 : Hid (Lies W1 (w.heap.size + 1) 3 #[.int .i64 4, .int .i64 6, .int .i64 1]) := by
    have z := Lies.new W0 3 #[.int .i64 4, .int .i64 6, .int .i64 1]
    rw [s0, ← h1] at z
    exact z
  obtain ⟨W2, h2⟩ : ∃ u, u = W1.alloc (.cells #[.int .i64 0, .int .i64 8, .int .i64 5] 3) := ⟨_, rfl⟩
  have s2 : W2.heap.size = w.heap.size + 1 + 1 + 1 := by rw [h2]; simp [s1]
  have HB2 : Hid (Below w.heap.size w W2) := by show Below _ _ _; rw [h2]; exact HB1.out.alloc HB1.out.size _
  have L02 : Hid (Lies W2 (w.heap.size) 24 #[.slice (some ⟨w.heap.size + 1 + 1 + 1 + 1 + 1, 0, none⟩) 5 5, .int .i64 9, .int .i64 0]) := by show Lies _ _ _ _; rw [h2]; exact L01.out.alloc _
  have L12 : Hid (Lies W2 (w.heap.size + 1) 3 #[.int .i64 4, .int .i64 6, .int .i64 1]) := by show Lies _ _ _ _; rw [h2]; exact L11.out.alloc _
  have L22 : Hid (Lies W2 (w.heap.size + 1 + 1) 3 #[.int .i64 0, .int .i64 8, .int .i64 5]) := by
    have z := Lies.new W1 3 #[.int .i64 0, .int .i64 8, .int .i64 5]
    rw [s1, ← h2] at z
    exact z
  obtain ⟨W3, h3⟩ : ∃ u, u = W2.alloc (.cells #[.int .i64 0, .int .i64 21] 3) := ⟨_, rfl⟩
  have s3 : W3.heap.size = w.heap.size + 1 + 1 + 1 + 1 := by rw [h3]; simp [s2]
  have HB3 : Hid (Below w.heap.size w W3) := by show Below _ _ _; rw [h3]; exact HB2.out.alloc HB2.out.size _
  have L03 : Hid (Lies W3 (w.heap.size) 24 #[.slice (some ⟨w.heap.size + 1 + 1 + 1 + 1 + 1, 0, none⟩) 5 5, .int .i64 9, .int .i64 0]) := by show Lies _ _ _ _; rw [h3]; exact L02.out.alloc _
  have L13 : Hid (Lies W3 (w.heap.size + 1) 3 #[.int .i64 4, .int .i64 6, .int .i64 1]) := by show Lies _ _ _ _; rw [h3]; exact L12.out.alloc _
  have L23 : Hid (Lies W3 (w.heap.size + 1 + 1) 3 #[.int .i64 0, .int .i64 8, .int .i64 5]) := by show Lies _ _ _ _; rw [h3]; exact L22.out.alloc _
  have L33 : Hid (Lies W3 (w.heap.size + 1 + 1 + 1) 3 #[.int .i64 0, .int .i64 21]) := by
    have z := Lies.new W2 3 #[.int .i64 0, .int .i64 21]
    rw [s2, ← h3] at z
    exact z
  obtain ⟨W4, h4⟩ : ∃ u, u = W3.alloc (.cells #[.int .i64 0, .int .i64 31, .int .i64 2, .int .i64 41, .int .i64 2] 3) := ⟨_, rfl⟩
  have s4 : W4.heap.size = w.heap.size + 1 + 1 + 1 + 1 + 1 := by rw [h4]; simp [s3]
  have HB4 : Hid (Below w.heap.size w W4) := by show Below _ _ _; rw [h4]; exact HB3.out.alloc HB3.out.size _
  have L04 : Hid (Lies W4 (w.heap.size) 24 #[.slice (some ⟨w.heap.size + 1 + 1 + 1 + 1 + 1, 0, none⟩) 5 5, .int .i64 9, .int .i64 0]) := by show Lies _ _ _ _; rw [h4]; exact L03.out.alloc _
  have L14 : Hid (Lies W4 (w.heap.size + 1) 3 #[.int .i64 4, .int .i64 6, .int .i64 1]) := by show Lies _ _ _ _; rw [h4]; exact L13.out.alloc _
  have L24 : Hid (Lies W4 (w.heap.size + 1 + 1) 3 #[.int .i64 0, .int .i64 8, .int .i64 5]) := by show Lies _ _ _ _; rw [h4]; exact L23.out.alloc _
  have L34 : Hid (Lies W4 (w.heap.size + 1 + 1 + 1) 3 #[.int .i64 0, .int .i64 21]) := by show Lies _ _ _ _; rw [h4]; exact L33.out.alloc _
  have L44 : Hid (Lies W4 (w.heap.size + 1 + 1 + 1 + 1) 3 #[.int .i64 0, .int .i64 31, .int .i64 2, .int .i64 41, .int .i64 2]) := by
    have z := Lies.new W3 3 #[.int .i64 0, .int .i64 31, .int .i64 2, .int .i64 41, .int .i64 2]
    rw [s3, ← h4] at z
    exact z
  obtain ⟨W5, h5⟩ : ∃ u, u = W4.alloc (.cells #[.int .i64 0, .int .i64 0, .slice none 0 0, .string ⟨#[]⟩, .int .i64 0, .int .i64 0, .int .i64 0, .int .i64 0, .slice (some ⟨w.heap.size + 1, 0, none⟩) 3 3, .string ⟨#[]⟩, .int .i64 0, .int .i64 0, .int .i64 0, .int .i64 0, .slice (some ⟨w.heap.size + 1 + 1, 0, none⟩) 3 3, .string ⟨#[]⟩, .int .i64 0, .int .i64 0, .int .i64 0, .int .i64 0, .slice (some ⟨w.heap.size + 1 + 1 + 1, 0, none⟩) 2 2, .string ⟨#[]⟩, .int .i64 0, .int .i64 0, .int .i64 0, .int .i64 0, .slice (some ⟨w.heap.size + 1 + 1 + 1 + 1, 0, none⟩) 5 5, .string ⟨#[]⟩, .int .i64 0, .int .i64 0] 46) := ⟨_, rfl⟩
  have s5 : W5.heap.size = w.heap.size + 1 + 1 + 1 + 1 + 1 + 1 := by rw [h5]; simp [s4]
  have HB5 : Hid (Below w.heap.size w W5) := by show Below _ _ _; rw [h5]; exact HB4.out.alloc HB4.out.size _
  have L05 : Hid (Lies W5 (w.heap.size) 24 #[.slice (some ⟨w.heap.size + 1 + 1 + 1 + 1 + 1, 0, none⟩) 5 5, .int .i64 9, .int .i64 0]) := by show Lies _ _ _ _; rw [h5]; exact L04.out.alloc _
  have L15 : Hid (Lies W5 (w.heap.size + 1) 3 #[.int .i64 4, .int .i64 6, .int .i64 1]) := by show Lies _ _ _ _; rw [h5]; exact L14.out.alloc _
  have L25 : Hid (Lies W5 (w.heap.size + 1 + 1) 3 #[.int .i64 0, .int .i64 8, .int .i64 5]) := by show Lies _ _ _ _; rw [h5]; exact L24.out.alloc _
  have L35 : Hid (Lies W5 (w.heap.size + 1 + 1 + 1) 3 #[.int .i64 0, .int .i64 21]) := by show Lies _ _ _ _; rw [h5]; exact L34.out.alloc _
  have L45 : Hid (Lies W5 (w.heap.size + 1 + 1 + 1 + 1) 3 #[.int .i64 0, .int .i64 31, .int .i64 2, .int .i64 41, .int .i64 2]) := by show Lies _ _ _ _; rw [h5]; exact L44.out.alloc _
  have L55 : Hid (Lies W5 (w.heap.size + 1 + 1 + 1 + 1 + 1) 46 #[.int .i64 0, .int .i64 0, .slice none 0 0, .string ⟨#[]⟩, .int .i64 0, .int .i64 0, .int .i64 0, .int .i64 0, .slice (some ⟨w.heap.size + 1, 0, none⟩) 3 3, .string ⟨#[]⟩, .int .i64 0, .int .i64 0, .int .i64 0, .int .i64 0, .slice (some ⟨w.heap.size + 1 + 1, 0, none⟩) 3 3, .string ⟨#[]⟩, .int .i64 0, .int .i64 0, .int .i64 0, .int .i64 0, .slice (some ⟨w.heap.size + 1 + 1 + 1, 0, none⟩) 2 2, .string ⟨#[]⟩, .int .i64 0, .int .i64 0, .int .i64 0, .int .i64 0, .slice (some ⟨w.heap.size + 1 + 1 + 1 + 1, 0, none⟩) 5 5, .string ⟨#[]⟩, .int .i64 0, .int .i64 0]) := by
    have z := Lies.new W4 46 #[.int .i64 0, .int .i64 0, .slice none 0 0, .string ⟨#[]⟩, .int .i64 0, .int .i64 0, .int .i64 0, .int .i64 0, .slice (some ⟨w.heap.size + 1, 0, none⟩) 3 3, .string ⟨#[]⟩, .int .i64 0, .int .i64 0, .int .i64 0, .int .i64 0, .slice (some ⟨w.heap.size + 1 + 1, 0, none⟩) 3 3, .string ⟨#[]⟩, .int .i64 0, .int .i64 0, .int .i64 0, .int .i64 0, .slice (some ⟨w.heap.size + 1 + 1 + 1, 0, none⟩) 2 2, .string ⟨#[]⟩, .int .i64 0, .int .i64 0, .int .i64 0, .int .i64 0, .slice (some ⟨w.heap.size + 1 + 1 + 1 + 1, 0, none⟩) 5 5, .string ⟨#[]⟩, .int .i64 0, .int .i64 0]
    rw [s4, ← h5] at z
    exact z
  clear s0 s1 s2 s3 s4 s5
  go_enter Try.func59, Try.ntmps59
  go_wp2_with fail
  rw [← h0, ← h1, ← h2, ← h3, ← h4, ← h5]
  have r0 := L05.out.cell 0
  have r1 := L05.out.cell 1
  have r2 := L05.out.cell 2
  simp only [List.getElem?_toArray, List.getElem?_cons_zero, List.getElem?_cons_succ] at r0 r1 r2
  refine bodyPost_ret (v := .agg #[.slice (some ⟨w.heap.size + 1 + 1 + 1 + 1 + 1, 0, none⟩) 5 5, .int .i64 9, .int .i64 0]) (by simp [results, Try.results59, go_sem, r0, r1, r2]) rfl ?_
  refine ⟨some ⟨w.heap.size + 1 + 1 + 1 + 1 + 1, 0, none⟩, 5, rfl, fun _ => ⟨w.heap.size + 1 + 1 + 1 + 1 + 1, 0, rfl, L55.out.lt, fun i o ho => ?_⟩, HB5.out⟩
  have cc : ∀ k, W5.cell? ⟨w.heap.size + 1 + 1 + 1 + 1 + 1, k, none⟩ = _ := fun k => L55.out.cell k
  match i, ho with
  | 0, ho =>
    obtain rfl : _ = o := Option.some.inj ho
    exact ⟨none, 0, ⟨cc 0, cc 1, cc 2, cc 3, cc 4, cc 5⟩, fun hn => by simp [o9] at hn, by decide, fun e => by first | rfl | cases e⟩
  | 1, ho =>
    obtain rfl : _ = o := Option.some.inj ho
    exact ⟨(some ⟨w.heap.size + 1, 0, none⟩), 3, ⟨cc 6, cc 7, cc 8, cc 9, cc 10, cc 11⟩, lies_ints9 (n := 3) L15.out rfl rfl, by decide, fun e => by first | rfl | cases e⟩
  | 2, ho =>
    obtain rfl : _ = o := Option.some.inj ho
    exact ⟨(some ⟨w.heap.size + 1 + 1, 0, none⟩), 3, ⟨cc 12, cc 13, cc 14, cc 15, cc 16, cc 17⟩, lies_ints9 (n := 3) L25.out rfl rfl, by decide, fun e => by first | rfl | cases e⟩
  | 3, ho =>
    obtain rfl : _ = o := Option.some.inj ho
    exact ⟨(some ⟨w.heap.size + 1 + 1 + 1, 0, none⟩), 2, ⟨cc 18, cc 19, cc 20, cc 21, cc 22, cc 23⟩, lies_ints9 (n := 2) L35.out rfl rfl, by decide, fun e => by first | rfl | cases e⟩
  | 4, ho =>
    obtain rfl : _ = o := Option.some.inj ho
    exact ⟨(some ⟨w.heap.size + 1 + 1 + 1 + 1, 0, none⟩), 5, ⟨cc 24, cc 25, cc 26, cc 27, cc 28, cc 29⟩, lies_ints9 (n := 5) L45.out rfl rfl, by decide, fun e => by first | rfl | cases e⟩
  | i + 5, ho => cases ho
theorem x0_9 : lk9 T9 2 0 = (21, 2, 0) := by kernel_rfl
theorem x1_9 : lk9 T9 2 2 = (41, 4, 0) := by kernel_rfl
theorem x2_9 : lk9 T9 2 4 = (0, 0, 91) := by kernel_rfl
theorem x3_9 : lk9 T9 6 0 = (0, 0, 90) := by kernel_rfl
theorem x4_9 : lf9 T9 7 = (6, 0) := by kernel_rfl
theorem x5_9 : lf9 T9 2 = (0, 0) := by kernel_rfl
theorem x6_9 : lf9 T9 10 = (0, 31) := by kernel_rfl
theorem x7_9 : un9 T9 4 64 2 = true := by kernel_rfl
theorem x8_9 : un9 T9 2 64 4 = false := by kernel_rfl
theorem x9_9 : clB9 T9 2 = true := by kernel_rfl
theorem x10_9 : clB9 T9 6 = false := by kernel_rfl
set_option maxHeartbeats 2000000 in
theorem fixed9_any (w : World) : Calls Try.prog 34 #[] w fun e w' => e = .returned (.bool true) ∧ Below w.heap.size w w' := by
  go_enter Try.func34, Try.ntmps34
  go_wp2_with fail
  refine (tower_any9 _).mono ?_
  rintro e w1 ⟨A, d, rfl, ho, hb⟩
  have hal := below_alloc w1 (.cells #[Value.slice A T9.objs.length d, Value.int .i64 T9.cap, Value.int .i64 T9.last] 24)
  have HB1 := hid (hb.trans (hal.mono hb.size))
  have HO1 := hid (ho.below hal)
  have HX1 := hid (Lies.new w1 24 #[Value.slice A T9.objs.length d, Value.int .i64 T9.cap, Value.int .i64 T9.last])
  clear hb hal ho
  have x0 := HX1.out.cell 0
  have x1 := HX1.out.cell 1
  have x2 := HX1.out.cell 2
  simp only [List.getElem?_toArray, List.getElem?_cons_zero, List.getElem?_cons_succ] at x0 x1 x2
  go_wp2_with fail
  refine (lfind_any9 T9 2 0 A d _ HO1.out t9_fit).mono ?_
  rintro e w2 ⟨rfl, hb⟩
  rw [x0_9]
  have HB2 := hid (HB1.out.trans (hb.mono HB1.out.size))
  have HO2 := hid (HO1.out.below hb)
  have HX2 := hid (HX1.out.later hb)
  clear hb x0 x1 x2
  have x0 := HX2.out.cell 0
  have x1 := HX2.out.cell 1
  have x2 := HX2.out.cell 2
  simp only [List.getElem?_toArray, List.getElem?_cons_zero, List.getElem?_cons_succ] at x0 x1 x2
  go_wp2_with fail
  refine (lfind_any9 T9 2 2 A d _ HO2.out t9_fit).mono ?_
  rintro e w3 ⟨rfl, hb⟩
  rw [x1_9]
  have HB3 := hid (HB2.out.trans (hb.mono HB2.out.size))
  have HO3 := hid (HO2.out.below hb)
  have HX3 := hid (HX2.out.later hb)
  clear hb x0 x1 x2
  have x0 := HX3.out.cell 0
  have x1 := HX3.out.cell 1
  have x2 := HX3.out.cell 2
  simp only [List.getElem?_toArray, List.getElem?_cons_zero, List.getElem?_cons_succ] at x0 x1 x2
  go_wp2_with fail
  refine (lfind_any9 T9 2 4 A d _ HO3.out t9_fit).mono ?_
  rintro e w4 ⟨rfl, hb⟩
  rw [x2_9]
  have HB4 := hid (HB3.out.trans (hb.mono HB3.out.size))
  have HO4 := hid (HO3.out.below hb)
  have HX4 := hid (HX3.out.later hb)
  clear hb x0 x1 x2
  have x0 := HX4.out.cell 0
  have x1 := HX4.out.cell 1
  have x2 := HX4.out.cell 2
  simp only [List.getElem?_toArray, List.getElem?_cons_zero, List.getElem?_cons_succ] at x0 x1 x2
  go_wp2_with fail
  refine (lfind_any9 T9 6 0 A d _ HO4.out t9_fit).mono ?_
  rintro e w5 ⟨rfl, hb⟩
  rw [x3_9]
  have HB5 := hid (HB4.out.trans (hb.mono HB4.out.size))
  have HO5 := hid (HO4.out.below hb)
  have HX5 := hid (HX4.out.later hb)
  clear hb x0 x1 x2
  have x0 := HX5.out.cell 0
  have x1 := HX5.out.cell 1
  have x2 := HX5.out.cell 2
  simp only [List.getElem?_toArray, List.getElem?_cons_zero, List.getElem?_cons_succ] at x0 x1 x2
  go_wp2_with fail
  refine (lof_any9 T9 7 A d _ HO5.out t9_fit).mono ?_
  rintro e w6 ⟨rfl, hb⟩
  rw [x4_9]
  have HB6 := hid (HB5.out.trans (hb.mono HB5.out.size))
  have HO6 := hid (HO5.out.below hb)
  have HX6 := hid (HX5.out.later hb)
  clear hb x0 x1 x2
  have x0 := HX6.out.cell 0
  have x1 := HX6.out.cell 1
  have x2 := HX6.out.cell 2
  simp only [List.getElem?_toArray, List.getElem?_cons_zero, List.getElem?_cons_succ] at x0 x1 x2
  go_wp2_with fail
  refine (lof_any9 T9 2 A d _ HO6.out t9_fit).mono ?_
  rintro e w7 ⟨rfl, hb⟩
  rw [x5_9]
  have HB7 := hid (HB6.out.trans (hb.mono HB6.out.size))
  have HO7 := hid (HO6.out.below hb)
  have HX7 := hid (HX6.out.later hb)
  clear hb x0 x1 x2
  have x0 := HX7.out.cell 0
  have x1 := HX7.out.cell 1
  have x2 := HX7.out.cell 2
  simp only [List.getElem?_toArray, List.getElem?_cons_zero, List.getElem?_cons_succ] at x0 x1 x2
  go_wp2_with fail
  refine (lof_any9 T9 10 A d _ HO7.out t9_fit).mono ?_
  rintro e w8 ⟨rfl, hb⟩
  rw [x6_9]
  have HB8 := hid (HB7.out.trans (hb.mono HB7.out.size))
  have HO8 := hid (HO7.out.below hb)
  have HX8 := hid (HX7.out.later hb)
  clear hb x0 x1 x2
  have x0 := HX8.out.cell 0
  have x1 := HX8.out.cell 1
  have x2 := HX8.out.cell 2
  simp only [List.getElem?_toArray, List.getElem?_cons_zero, List.getElem?_cons_succ] at x0 x1 x2
  go_wp2_with fail
  refine (lunder_any9 T9 2 4 A d _ HO8.out t9_fit).mono ?_
  rintro e w9 ⟨rfl, hb⟩
  rw [x7_9]
  have HB9 := hid (HB8.out.trans (hb.mono HB8.out.size))
  have HO9 := hid (HO8.out.below hb)
  have HX9 := hid (HX8.out.later hb)
  clear hb x0 x1 x2
  have x0 := HX9.out.cell 0
  have x1 := HX9.out.cell 1
  have x2 := HX9.out.cell 2
  simp only [List.getElem?_toArray, List.getElem?_cons_zero, List.getElem?_cons_succ] at x0 x1 x2
  go_wp2_with fail
  refine (lunder_any9 T9 4 2 A d _ HO9.out t9_fit).mono ?_
  rintro e w10 ⟨rfl, hb⟩
  rw [x8_9]
  have HB10 := hid (HB9.out.trans (hb.mono HB9.out.size))
  have HO10 := hid (HO9.out.below hb)
  have HX10 := hid (HX9.out.later hb)
  clear hb x0 x1 x2
  have x0 := HX10.out.cell 0
  have x1 := HX10.out.cell 1
  have x2 := HX10.out.cell 2
  simp only [List.getElem?_toArray, List.getElem?_cons_zero, List.getElem?_cons_succ] at x0 x1 x2
  go_wp2_with fail
  refine (lclass_any9 T9 2 A d _ HO10.out t9_fit).mono ?_
  rintro e w11 ⟨rfl, hb⟩
  rw [x9_9]
  have HB11 := hid (HB10.out.trans (hb.mono HB10.out.size))
  have HO11 := hid (HO10.out.below hb)
  have HX11 := hid (HX10.out.later hb)
  clear hb x0 x1 x2
  have x0 := HX11.out.cell 0
  have x1 := HX11.out.cell 1
  have x2 := HX11.out.cell 2
  simp only [List.getElem?_toArray, List.getElem?_cons_zero, List.getElem?_cons_succ] at x0 x1 x2
  go_wp2_with fail
  refine (lclass_any9 T9 6 A d _ HO11.out t9_fit).mono ?_
  rintro e w12 ⟨rfl, hb⟩
  rw [x10_9]
  have HB12 := hid (HB11.out.trans (hb.mono HB11.out.size))
  have HO12 := hid (HO11.out.below hb)
  have HX12 := hid (HX11.out.later hb)
  clear hb x0 x1 x2
  have x0 := HX12.out.cell 0
  have x1 := HX12.out.cell 1
  have x2 := HX12.out.cell 2
  simp only [List.getElem?_toArray, List.getElem?_cons_zero, List.getElem?_cons_succ] at x0 x1 x2
  go_wp2_with fail
  go_ret
  exact ⟨rfl, HB12.out⟩
end Go.Proofs.Ytfdjghllnbiffaa
