/- The calls whose answers the document fixes: all are as it says. -/
import Derived.Test.YtcahdhocilmoeaaCE10
namespace Go.Proofs.Ytcahdhocilmoeaa
open Go.RowKit
set_option maxRecDepth 100000
def o10 (l : List Int) : Ob := ⟨0, 0, l, ⟨#[]⟩, 0, 0⟩
def T10 : Hp := ⟨[o10 [], o10 [0, 4, 1], o10 [0, 21, 2, 31]], 4, 0⟩
def E10 : Hp := ⟨[], 0, 0⟩
theorem t10_fit : T10.Fit := ⟨by decide, fun o ho => by
  show o.slots.length ≤ _
  have : ∀ o ∈ T10.objs, o.slots.length ≤ 4 := by decide
  have := this o ho; omega⟩
theorem e10_fit : E10.Fit := ⟨by decide, fun o ho => by cases ho⟩
theorem e10_obs (w : World) : ObsR w none E10.objs := fun h => absurd h (by decide)
theorem lies_ints10 {w : World} {g n : Nat} {l : List Int} {cs : Array Value} (hl : Lies w g 3 cs) (hc : cs.toList = l.map (Value.int .i64)) (_hn : l.length = n) : IntsR w (some ⟨g, 0, none⟩) l := fun _ => by
  refine ⟨g, 0, rfl, hl.lt, fun j x hx => ?_⟩
  rw [Nat.zero_add, hl.cell, ← Array.getElem?_toList, hc, List.getElem?_map, hx]; rfl
def CsP (w : World) (b1 b2 b3 : Nat) : Prop := Lies w b1 3 #[.int .i64 0, .int .i64 4, .int .i64 1] ∧ Lies w b2 3 #[.int .i64 0, .int .i64 21, .int .i64 2, .int .i64 31] ∧ Lies w b3 46 #[.int .i64 0, .int .i64 0, .slice none 0 0, .string ⟨#[]⟩, .int .i64 0, .int .i64 0, .int .i64 0, .int .i64 0, .slice (some ⟨b1, 0, none⟩) 3 3, .string ⟨#[]⟩, .int .i64 0, .int .i64 0, .int .i64 0, .int .i64 0, .slice (some ⟨b2, 0, none⟩) 4 4, .string ⟨#[]⟩, .int .i64 0, .int .i64 0]
theorem cs_obs {w : World} {b1 b2 b3 : Nat} (h : CsP w b1 b2 b3) : ObsR w (some ⟨b3, 0, none⟩) T10.objs := fun _ => ⟨b3, 0, rfl, h.2.2.lt, fun i o ho => by
  have cc : ∀ k, w.cell? ⟨b3, k, none⟩ = _ := fun k => h.2.2.cell k
  match i, ho with
  | 0, ho =>
    obtain rfl : _ = o := Option.some.inj ho
    exact ⟨none, 0, ⟨cc 0, cc 1, cc 2, cc 3, cc 4, cc 5⟩, fun hn => by simp [o10] at hn, by decide, fun e => by first | rfl | cases e⟩
  | 1, ho =>
    obtain rfl : _ = o := Option.some.inj ho
    exact ⟨(some ⟨b1, 0, none⟩), 3, ⟨cc 6, cc 7, cc 8, cc 9, cc 10, cc 11⟩, lies_ints10 (n := 3) h.1 rfl rfl, by decide, fun e => by first | rfl | cases e⟩
  | 2, ho =>
    obtain rfl : _ = o := Option.some.inj ho
    exact ⟨(some ⟨b2, 0, none⟩), 4, ⟨cc 12, cc 13, cc 14, cc 15, cc 16, cc 17⟩, lies_ints10 (n := 4) h.2.1 rfl rfl, by decide, fun e => by first | rfl | cases e⟩
  | i + 3, ho => cases ho⟩
theorem CsP.only {w w' : World} {b1 b2 b3 p q : Nat} {L : List En} {n m : Int} (h : CsP w b1 b2 b3) (hc : Ca w p q L n m) (ho : Only2 p q w w') : CsP w' b1 b2 b3 :=
  ⟨ho.lies h.1 (lies_ne h.1 hc.box (by decide)) (lies_ne h.1 hc.row (by decide)), ho.lies h.2.1 (lies_ne h.2.1 hc.box (by decide)) (lies_ne h.2.1 hc.row (by decide)), ho.lies h.2.2 (lies_ne h.2.2 hc.box (by decide)) (lies_ne h.2.2 hc.row (by decide))⟩
def ClsP (w : World) (e : Ending) (w' : World) : Prop := ∃ A b1 b2 b3, A = some ⟨b3, 0, none⟩ ∧ e = .returned (.agg #[.slice A T10.objs.length 3, .int .i64 T10.cap, .int .i64 T10.last]) ∧ CsP w' b1 b2 b3 ∧ Below w.heap.size w w'
set_option maxHeartbeats 1000000 in
theorem class_any10 (w : World) : Calls Try.prog 66 #[] w (ClsP w) := by
  obtain ⟨W0, h0⟩ : ∃ u, u = w.alloc (.cells #[.slice (some ⟨w.heap.size + 1 + 1 + 1, 0, none⟩) 3 3, .int .i64 4, .int .i64 0] 24) := ⟨_, rfl⟩
  have s0 : W0.heap.size = w.heap.size + 1 := by rw [h0]; simp
  have HB0 : Hid (Below w.heap.size w W0) := by show Below _ _ _; rw [h0]; exact below_alloc _ _
  have L00 : Hid (Lies W0 (w.heap.size) 24 #[.slice (some ⟨w.heap.size + 1 + 1 + 1, 0, none⟩) 3 3, .int .i64 4, .int .i64 0]) := by show Lies _ _ _ _; rw [h0]; exact Lies.new _ _ _
  obtain ⟨W1, h1⟩ : ∃ u, u = W0.alloc (.cells #[.int .i64 0, .int .i64 4, .int .i64 1] 3) := ⟨_, rfl⟩
  have s1 : W1.heap.size = w.heap.size + 1 + 1 := by rw [h1]; simp [s0]
  have HB1 : Hid (Below w.heap.size w W1) := by show Below _ _ _; rw [h1]; exact HB0.out.alloc HB0.out.size _
  have L01 : Hid (Lies W1 (w.heap.size) 24 #[.slice (some ⟨w.heap.size + 1 + 1 + 1, 0, none⟩) 3 3, .int .i64 4, .int .i64 0]) := by show Lies _ _ _ _; rw [h1]; exact L00.out.alloc _
  have L11 : Hid (Lies W1 (w.heap.size + 1) 3 #[.int .i64 0, .int .i64 4, .int .i64 1]) := by
    have z := Lies.new W0 3 #[.int .i64 0, .int .i64 4, .int .i64 1]
    rw [s0, ← h1] at z
    exact z
  obtain ⟨W2, h2⟩ : ∃ u, u = W1.alloc (.cells #[.int .i64 0, .int .i64 21, .int .i64 2, .int .i64 31] 3) := ⟨_, rfl⟩
  have s2 : W2.heap.size = w.heap.size + 1 + 1 + 1 := by rw [h2]; simp [s1]
  have HB2 : Hid (Below w.heap.size w W2) := by show Below _ _ _; rw [h2]; exact HB1.out.alloc HB1.out.size _
  have L02 : Hid (Lies W2 (w.heap.size) 24 #[.slice (some ⟨w.heap.size + 1 + 1 + 1, 0, none⟩) 3 3, .int .i64 4, .int .i64 0]) := by show Lies _ _ _ _; rw [h2]; exact L01.out.alloc _
  have L12 : Hid (Lies W2 (w.heap.size + 1) 3 #[.int .i64 0, .int .i64 4, .int .i64 1]) := by show Lies _ _ _ _; rw [h2]; exact L11.out.alloc _
  have L22 : Hid (Lies W2 (w.heap.size + 1 + 1) 3 #[.int .i64 0, .int .i64 21, .int .i64 2, .int .i64 31]) := by
    have z := Lies.new W1 3 #[.int .i64 0, .int .i64 21, .int .i64 2, .int .i64 31]
    rw [s1, ← h2] at z
    exact z
  obtain ⟨W3, h3⟩ : ∃ u, u = W2.alloc (.cells #[.int .i64 0, .int .i64 0, .slice none 0 0, .string ⟨#[]⟩, .int .i64 0, .int .i64 0, .int .i64 0, .int .i64 0, .slice (some ⟨w.heap.size + 1, 0, none⟩) 3 3, .string ⟨#[]⟩, .int .i64 0, .int .i64 0, .int .i64 0, .int .i64 0, .slice (some ⟨w.heap.size + 1 + 1, 0, none⟩) 4 4, .string ⟨#[]⟩, .int .i64 0, .int .i64 0] 46) := ⟨_, rfl⟩
  have s3 : W3.heap.size = w.heap.size + 1 + 1 + 1 + 1 := by rw [h3]; simp [s2]
  have HB3 : Hid (Below w.heap.size w W3) := by show Below _ _ _; rw [h3]; exact HB2.out.alloc HB2.out.size _
  have L03 : Hid (Lies W3 (w.heap.size) 24 #[.slice (some ⟨w.heap.size + 1 + 1 + 1, 0, none⟩) 3 3, .int .i64 4, .int .i64 0]) := by show Lies _ _ _ _; rw [h3]; exact L02.out.alloc _
  have L13 : Hid (Lies W3 (w.heap.size + 1) 3 #[.int .i64 0, .int .i64 4, .int .i64 1]) := by show Lies _ _ _ _; rw [h3]; exact L12.out.alloc _
  have L23 : Hid (Lies W3 (w.heap.size + 1 + 1) 3 #[.int .i64 0, .int .i64 21, .int .i64 2, .int .i64 31]) := by show Lies _ _ _ _; rw [h3]; exact L22.out.alloc _
  have L33 : Hid (Lies W3 (w.heap.size + 1 + 1 + 1) 46 #[.int .i64 0, .int .i64 0, .slice none 0 0, .string ⟨#[]⟩, .int .i64 0, .int .i64 0, .int .i64 0, .int .i64 0, .slice (some ⟨w.heap.size + 1, 0, none⟩) 3 3, .string ⟨#[]⟩, .int .i64 0, .int .i64 0, .int .i64 0, .int .i64 0, .slice (some ⟨w.heap.size + 1 + 1, 0, none⟩) 4 4, .string ⟨#[]⟩, .int .i64 0, .int .i64 0]) := by
    have z := Lies.new W2 46 #[.int .i64 0, .int .i64 0, .slice none 0 0, .string ⟨#[]⟩, .int .i64 0, .int .i64 0, .int .i64 0, .int .i64 0, .slice (some ⟨w.heap.size + 1, 0, none⟩) 3 3, .string ⟨#[]⟩, .int .i64 0, .int .i64 0, .int .i64 0, .int .i64 0, .slice (some ⟨w.heap.size + 1 + 1, 0, none⟩) 4 4, .string ⟨#[]⟩, .int .i64 0, .int .i64 0]
    rw [s2, ← h3] at z
    exact z
  clear s0 s1 s2 s3
  go_enter Try.func66, Try.ntmps66
  go_wp2_with fail
  rw [← h0, ← h1, ← h2, ← h3]
  have r0 := L03.out.cell 0
  have r1 := L03.out.cell 1
  have r2 := L03.out.cell 2
  simp only [List.getElem?_toArray, List.getElem?_cons_zero, List.getElem?_cons_succ] at r0 r1 r2
  refine bodyPost_ret (v := .agg #[.slice (some ⟨w.heap.size + 1 + 1 + 1, 0, none⟩) 3 3, .int .i64 4, .int .i64 0]) (by simp [results, Try.results66, go_sem, r0, r1, r2]) rfl ?_
  exact ⟨_, _, _, _, rfl, rfl, ⟨L13.out, L23.out, L33.out⟩, HB3.out⟩
def L10 : List En := cb10 (nw10 4) T10 2 0
theorem y0_10 : fd10 (nw10 4) T10 2 0 = (21, 2, 0) := by kernel_rfl
theorem y1_10 : hit10 (nw10 4) 2 0 = false := by kernel_rfl
theorem y2_10 : fd10 L10 E10 2 0 = (21, 2, 0) := by kernel_rfl
theorem y3_10 : hit10 L10 2 0 = true := by kernel_rfl
theorem y4_10 : L10.length = 4 := by kernel_rfl
theorem y5_10 : cb10 L10 E10 2 0 = L10 := by unfold cb10; rw [if_neg (fun z => by have := z.1; rw [y3_10] at this; cases this)]
theorem y6_10 : fd10 (nw10 4) E10 2 0 = (0, 0, 1) := by kernel_rfl
theorem y7_10 : lk9 T10 2 2 = (31, 2, 0) := by kernel_rfl
set_option maxHeartbeats 2000000 in
theorem fixed10_any (w : World) : Calls Try.prog 36 #[] w fun e w' => e = .returned (.bool true) ∧ Below w.heap.size w w' := by
  go_enter Try.func36, Try.ntmps36
  go_wp2_with fail
  refine (new_any10 4 (by omega) (by omega) _).mono ?_
  rintro e w1 ⟨p, q, rfl, hc, hp, hq, hb⟩
  have HB1 := hid hb
  have HC1 := hid hc
  have HP := hid hp
  have HQ := hid hq
  clear hb hc hp hq
  go_wp2_with fail
  refine (new_no10 0 _ (by omega)).mono ?_
  rintro e w2 ⟨rfl, rfl⟩
  go_wp2_with fail
  refine (new_no10 65 _ (by omega)).mono ?_
  rintro e w2 ⟨rfl, rfl⟩
  go_wp2_with fail
  refine (class_any10 _).mono ?_
  rintro e w2 ⟨A, b1, b2, b3, hA, rfl, hcs, hb⟩
  have HB2 := hid (then_w HB1.out hb)
  have HC2 := hid (HC1.out.later hb)
  have HA := hid hA
  have HCS := hid hcs
  clear hb hcs hA HC1
  go_wp2_with fail
  refine (find_any10 HC2.out (by decide) (by decide) T10 2 0 A 3 (fun w' ho => by rw [HA.out]; exact cs_obs (HCS.out.only HC2.out ho)) t10_fit (by decide) (by decide)).mono ?_
  rintro e w3 ⟨rfl, hc, ho⟩
  rw [y0_10]
  unfold tu10
  have HC3 : Hid (Ca w3 p q L10 0 1) := by show Ca _ _ _ _ _ _; rw [y1_10] at hc; exact hc
  have HB3 := hid (ho.from_ HB2.out HP.out HQ.out HB2.out.size)
  clear hc ho HC2 HCS HA
  go_wp2_with fail
  refine (find_any10 HC3.out (by rw [y4_10]; decide) (by rw [y4_10]; decide) E10 2 0 none 0 (fun w' _ => e10_obs _) e10_fit (by decide) (by decide)).mono ?_
  rintro e w4 ⟨rfl, hc, ho⟩
  rw [y2_10]
  unfold tu10
  have HC4 : Hid (Ca w4 p q L10 1 1) := by show Ca _ _ _ _ _ _; rw [y3_10, y5_10] at hc; exact hc
  have HB4 := hid (ho.from_ HB3.out HP.out HQ.out HB3.out.size)
  clear hc ho HC3
  go_wp2_with fail
  refine (hits_any HC4.out (by rw [y4_10]; decide)).mono ?_
  rintro e w5 ⟨rfl, hb⟩
  have HB5 := hid (then_w HB4.out hb)
  have HC5 := hid (HC4.out.later hb)
  clear hb HC4
  go_wp2_with fail
  refine (flush_any10 HC5.out (by rw [y4_10]; decide)).mono ?_
  rintro e w6 ⟨rfl, hc, ho⟩
  have HC6 : Hid (Ca w6 p q (nw10 4) 1 1) := by show Ca _ _ _ _ _ _; rw [y4_10] at hc; exact hc
  have HB6 := hid (ho.from_ HB5.out HP.out HQ.out HB5.out.size)
  clear hc ho HC5
  go_wp2_with fail
  refine (find_any10 HC6.out (by decide) (by decide) E10 2 0 none 0 (fun w' _ => e10_obs _) e10_fit (by decide) (by decide)).mono ?_
  rintro e w7 ⟨rfl, hc, ho⟩
  rw [y6_10]
  unfold tu10
  obtain ⟨L7, hL7⟩ : ∃ L, L = cb10 (nw10 4) E10 2 0 := ⟨_, rfl⟩
  have HL7 : Hid (1 ≤ L7.length) := by show _ ≤ _; rw [hL7, cb10_len]; decide
  have HC7 : Hid (Ca w7 p q L7 1 2) := by show Ca _ _ _ _ _ _; rw [y1_10, ← hL7] at hc; exact hc
  have HB7 := hid (ho.from_ HB6.out HP.out HQ.out HB6.out.size)
  clear hc ho HC6 hL7
  go_wp2_with fail
  refine (hits_any HC7.out HL7.out).mono ?_
  rintro e w8 ⟨rfl, hb⟩
  have HB8 := hid (then_w HB7.out hb)
  clear hb HC7
  go_wp2_with fail
  refine (flush_nil10 _).mono ?_
  rintro e w9 ⟨rfl, rfl⟩
  go_wp2_with fail
  refine (class_any10 _).mono ?_
  rintro e w9 ⟨A2, b4, b5, b6, hA, rfl, hcs, hb⟩
  have HB9 := hid (then_w HB8.out hb)
  have HA := hid hA
  have HCS := hid hcs
  clear hb hcs hA
  go_wp2_with fail
  refine (find_nil10 T10 2 2 A2 3 _ (by rw [HA.out]; exact cs_obs HCS.out) t10_fit).mono ?_
  rintro e wA ⟨rfl, hb⟩
  rw [y7_10]
  unfold tu10
  have HBA := hid (then_w HB9.out hb)
  clear hb HCS HA
  go_wp2_with fail
  go_ret
  exact ⟨by first | rfl | simp, HBA.out⟩
end Go.Proofs.Ytcahdhocilmoeaa
