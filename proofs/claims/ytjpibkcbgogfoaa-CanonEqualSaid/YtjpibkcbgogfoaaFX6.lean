/- The calls of canon whose answers the document fixes: true. -/
import Derived.Test.YtjpibkcbgogfoaaSM
import Derived.Test.YtjpibkcbgogfoaaFT
import Derived.Test.YtjpibkcbgogfoaaVS
namespace Go.Proofs.Ytjpibkcbgogfoaa
open Go.RowKit
set_option maxRecDepth 100000
def M6 : Hp := ⟨[⟨0, 0, [], ⟨#[]⟩, 0, 1⟩, ⟨0, 0, [], ⟨#[]⟩, 0, 0⟩, ⟨0, 0, [4, 5, 0], ⟨#[]⟩, 0, 9⟩], 3, 7⟩
def N6 : Hp := ⟨[⟨2, 0, [0, 5, 2], ⟨#[]⟩, 0, 9⟩, ⟨2, 0, [], ⟨#[]⟩, 0, 1⟩], 3, 7⟩
def G6 : Hp := ⟨N6.objs, 9, 0⟩
theorem m6_may : mayB M6 = true := by decide +kernel
theorem n6_may : mayB N6 = true := by decide +kernel
theorem g6_may : mayB G6 = true := by decide +kernel
theorem fitM : M6.Fit := may_fit m6_may
theorem fitN : N6.Fit := may_fit n6_may
theorem fitG : G6.Fit := may_fit g6_may
theorem m6_e1 : liE M6 [4, 5] = 0 := by decide +kernel
theorem m6_e2 : liE M6 [6] = 31 := by decide +kernel
theorem m6_e3 : liE M6 [4] = 0 := by decide +kernel
theorem g6_e1 : liE G6 [0] = 0 := by decide +kernel
theorem g6_e2 : liE G6 [2] = 0 := by decide +kernel
theorem m6_c : cnH M6 [4, 5] = N6 := by kernel_rfl
theorem m6_l : cnL M6 [4, 5] = [0, 5] := by decide +kernel
theorem m6_c3 : cnH M6 [6] = zeroH := cnH_no (by rw [m6_e2]; decide)
theorem m6_l3 : cnL M6 [6] = [] := cnL_no (by rw [m6_e2]; decide)
theorem sa_1 : saB M6 [4] G6 [0] = true := saB_yes (same_iff.2 ⟨m6_e3, g6_e1, by kernel_rfl, by decide +kernel⟩)
theorem len_m : (cnH M6 [4]).objs.length = 2 := by decide +kernel
theorem len_g : (cnH G6 [2]).objs.length = 1 := by decide +kernel
theorem sa_2 : saB M6 [4] G6 [2] = false := saB_no fun g => by
  have := congrArg List.length (same_iff.1 g).2.2.1
  rw [len_m, len_g] at this
  cases this
theorem sa_3 : saB M6 [4] M6 [6] = false := saB_no fun g => by
  have := g.2.1
  rw [m6_e2] at this
  cases this
theorem at_two6 (w : World) (x y : Int) : IntsR (w.alloc (.cells #[.int .i64 x, .int .i64 y] 3)) (some ⟨w.heap.size, 0, none⟩) [x, y] := fun _ => by
  refine ⟨w.heap.size, 0, rfl, by simp, fun j z hz => ?_⟩
  have := (Lies.new w 3 #[.int .i64 x, .int .i64 y]).cell j
  rw [Nat.zero_add, this]
  match j with
  | 0 => simp at hz ⊢; exact hz
  | 1 => simp at hz ⊢; exact hz
  | j + 2 => simp at hz
theorem lies_ints6 {w : World} {g : Nat} {xs : List Int} (h : Lies w g 3 ((xs.map (Value.int .i64)).toArray)) : IntsR w (some ⟨g, 0, none⟩) xs := fun _ =>
  ⟨g, 0, rfl, h.lt, fun j x hx => by rw [Nat.zero_add, h.cell]; simp [hx]⟩
theorem at_one6 (w : World) (x y : Int) : IntsR ((w.alloc (.cells #[.int .i64 x] 3)).alloc (.cells #[.int .i64 y] 3)) (some ⟨w.heap.size + 1, 0, none⟩) [y] := by
  have := at_one (w.alloc (.cells #[.int .i64 x] 3)) y
  simpa using this
def OC6 (s : Nat) : Array Value := #[.int .i64 0, .int .i64 0, .slice none 0 0, .string ⟨#[]⟩, .int .i64 0, .int .i64 1, .int .i64 0, .int .i64 0, .slice none 0 0, .string ⟨#[]⟩, .int .i64 0, .int .i64 0, .int .i64 0, .int .i64 0, .slice (some ⟨s, 0, none⟩) 3 3, .string ⟨#[]⟩, .int .i64 0, .int .i64 9]
def OD6 (s : Nat) : Array Value := #[.int .i64 2, .int .i64 0, .slice (some ⟨s, 0, none⟩) 3 3, .string ⟨#[]⟩, .int .i64 0, .int .i64 9, .int .i64 2, .int .i64 0, .slice none 0 0, .string ⟨#[]⟩, .int .i64 0, .int .i64 1]
theorem m6_obs {W : World} {s : Nat} (k0 : Lies W s 3 #[.int .i64 4, .int .i64 5, .int .i64 0]) (k2 : Lies W (s + 1) 46 (OC6 s)) : ObsR W (some ⟨s + 1, 0, none⟩) M6.objs := fun _ => by
  refine ⟨s + 1, 0, rfl, k2.lt, fun i o ho => ?_⟩
  match i with
  | 0 =>
    obtain rfl : (⟨0, 0, [], ⟨#[]⟩, 0, 1⟩ : Ob) = o := by simpa [M6] using ho
    exact ⟨none, 0, ⟨by rw [k2.cell]; rfl, by rw [k2.cell]; rfl, by rw [k2.cell]; rfl, by rw [k2.cell]; rfl, by rw [k2.cell]; rfl, by rw [k2.cell]; rfl⟩, fun hn => by simp at hn, Nat.le_refl _, fun _ => rfl⟩
  | 1 =>
    obtain rfl : (⟨0, 0, [], ⟨#[]⟩, 0, 0⟩ : Ob) = o := by simpa [M6] using ho
    exact ⟨none, 0, ⟨by rw [k2.cell]; rfl, by rw [k2.cell]; rfl, by rw [k2.cell]; rfl, by rw [k2.cell]; rfl, by rw [k2.cell]; rfl, by rw [k2.cell]; rfl⟩, fun hn => by simp at hn, Nat.le_refl _, fun _ => rfl⟩
  | 2 =>
    obtain rfl : (⟨0, 0, [4, 5, 0], ⟨#[]⟩, 0, 9⟩ : Ob) = o := by simpa [M6] using ho
    exact ⟨some ⟨s, 0, none⟩, 3, ⟨by rw [k2.cell]; rfl, by rw [k2.cell]; rfl, by rw [k2.cell]; rfl, by rw [k2.cell]; rfl, by rw [k2.cell]; rfl, by rw [k2.cell]; rfl⟩, lies_ints6 (xs := [4, 5, 0]) k0, Nat.le_refl _, fun hn => by cases hn⟩
  | i + 3 => simp [M6] at ho
theorem n6_obs {W : World} {s : Nat} (k0 : Lies W s 3 #[.int .i64 0, .int .i64 5, .int .i64 2]) (k2 : Lies W (s + 1) 46 (OD6 s)) : ObsR W (some ⟨s + 1, 0, none⟩) N6.objs := fun _ => by
  refine ⟨s + 1, 0, rfl, k2.lt, fun i o ho => ?_⟩
  match i with
  | 0 =>
    obtain rfl : (⟨2, 0, [0, 5, 2], ⟨#[]⟩, 0, 9⟩ : Ob) = o := by simpa [N6] using ho
    exact ⟨some ⟨s, 0, none⟩, 3, ⟨by rw [k2.cell]; rfl, by rw [k2.cell]; rfl, by rw [k2.cell]; rfl, by rw [k2.cell]; rfl, by rw [k2.cell]; rfl, by rw [k2.cell]; rfl⟩, lies_ints6 (xs := [0, 5, 2]) k0, Nat.le_refl _, fun hn => by cases hn⟩
  | 1 =>
    obtain rfl : (⟨2, 0, [], ⟨#[]⟩, 0, 1⟩ : Ob) = o := by simpa [N6] using ho
    exact ⟨none, 0, ⟨by rw [k2.cell]; rfl, by rw [k2.cell]; rfl, by rw [k2.cell]; rfl, by rw [k2.cell]; rfl, by rw [k2.cell]; rfl, by rw [k2.cell]; rfl⟩, fun hn => by simp at hn, Nat.le_refl _, fun _ => rfl⟩
  | i + 2 => simp [N6] at ho
theorem m6_start (w : World) : ObsR ((w.alloc (.cells #[.int .i64 4, .int .i64 5, .int .i64 0] 3)).alloc (.cells (OC6 w.heap.size) 46)) (some ⟨w.heap.size + 1, 0, none⟩) M6.objs := by
  have k0 := (Lies.new w 3 #[.int .i64 4, .int .i64 5, .int .i64 0]).alloc (.cells (OC6 w.heap.size) 46)
  have k2 := Lies.new (w.alloc (.cells #[.int .i64 4, .int .i64 5, .int .i64 0] 3)) 46 (OC6 w.heap.size)
  simp only [World.size_alloc] at k2
  exact m6_obs k0 k2
theorem n6_start (w : World) : ObsR ((w.alloc (.cells #[.int .i64 0, .int .i64 5, .int .i64 2] 3)).alloc (.cells (OD6 w.heap.size) 46)) (some ⟨w.heap.size + 1, 0, none⟩) N6.objs := by
  have k0 := (Lies.new w 3 #[.int .i64 0, .int .i64 5, .int .i64 2]).alloc (.cells (OD6 w.heap.size) 46)
  have k2 := Lies.new (w.alloc (.cells #[.int .i64 0, .int .i64 5, .int .i64 2] 3)) 46 (OD6 w.heap.size)
  simp only [World.size_alloc] at k2
  exact n6_obs k0 k2
theorem of6 {h k : Hp} {rs L : List Int} {en : Int} (hc : cnH h rs = k) (hl : cnL h rs = L) (he : liE h rs = en) (A R : Option Addr) (c d : Nat) (w : World) (hs : ObsR w A h.objs) (fit : h.Fit) (hr : IntsR w R rs) (hk : rs.length ≤ 100000) :
    Calls Try.prog 38 #[.agg #[.slice A h.objs.length c, .int .i64 h.cap, .int .i64 h.last], .slice R rs.length d] w (HeapInts w k L en) := by subst hc hl he; exact of_any h rs A R c d w hs fit hr hk
theorem same6 {a b : Hp} {p q : List Int} {t : Bool} (ht : saB a p b q = t) (A B P Q : Option Addr) (c d dp dq : Nat) (w : World) (hsa : ObsR w A a.objs) (fa : a.Fit) (hp : IntsR w P p) (hpl : p.length ≤ 100000) (hsb : ObsR w B b.objs) (fb : b.Fit) (hq : IntsR w Q q) (hql : q.length ≤ 100000) :
    Calls Try.prog 41 #[.agg #[.slice A a.objs.length c, .int .i64 a.cap, .int .i64 a.last], .slice P p.length dp, .agg #[.slice B b.objs.length d, .int .i64 b.cap, .int .i64 b.last], .slice Q q.length dq] w fun e w' => e = .returned (.bool t) ∧ Below w.heap.size w w' := by subst ht; exact csame_any a b p q A B P Q c d dp dq w hsa fa hp hpl hsb fb hq hql
theorem ints6 {xs ys : List Int} (e : xs = ys) (A B : Option Addr) (c d : Nat) (w : World) (ha : IntsR w A xs) (hb : IntsR w B ys) (hx : xs.length ≤ 9223372036854775807) :
    Calls Try.prog 40 #[.slice A xs.length c, .slice B ys.length d] w fun e w' => e = .returned (.bool true) ∧ Below w.heap.size w w' := by
  have := rints_any xs ys A B c d w ha hb hx
  simpa [e] using this
set_option maxHeartbeats 1000000 in
theorem fixed6_any (w : World) : Calls Try.prog 37 #[] w fun e w' => e = .returned (.bool true) ∧ Below w.heap.size w w' := by
  go_enter Try.func37, Try.ntmps37
  go_upto_region 2 with fail
  obtain ⟨w0, hw0⟩ : ∃ w0, w0 = (w.alloc (.cells #[.int .i64 4, .int .i64 5, .int .i64 0] 3)).alloc (.cells #[.int .i64 0, .int .i64 0, .slice none 0 0, .string ⟨#[]⟩, .int .i64 0, .int .i64 1, .int .i64 0, .int .i64 0, .slice none 0 0, .string ⟨#[]⟩, .int .i64 0, .int .i64 0, .int .i64 0, .int .i64 0, .slice (some ⟨w.heap.size, 0, none⟩) 3 3, .string ⟨#[]⟩, .int .i64 0, .int .i64 9] 46) := ⟨_, rfl⟩
  have B0 : Hid (Below w.heap.size w w0) := by show Below _ _ _; rw [hw0]; exact below_alloc2 w _ _
  have OM0 : Hid (ObsR w0 (some ⟨w.heap.size + 1, 0, none⟩) M6.objs) := by show ObsR _ _ _; rw [hw0]; exact m6_start w
  have hz0 : w0.heap.size = w.heap.size + 1 + 1 := by rw [hw0]; simp
  rw [← hw0, ← hz0]
  clear hw0 hz0
  obtain ⟨w1, hw1⟩ : ∃ w1, w1 = w0.alloc (.cells #[.slice (some ⟨w.heap.size + 1, 0, none⟩) 3 3, .int .i64 3, .int .i64 7] 24) := ⟨_, rfl⟩
  have HT : Hid (Below w0.heap.size w0 w1) := by show Below _ _ _; rw [hw1]; exact below_alloc _ _
  have OM1 := hid (OM0.out.below HT.out)
  have B1 := hid (then_b B0.out HT.out)
  have HM1 : Hid (Lies w1 w0.heap.size 24 #[.slice (some ⟨w.heap.size + 1, 0, none⟩) 3 3, .int .i64 3, .int .i64 7]) := by show Lies w1 w0.heap.size 24 #[.slice (some ⟨w.heap.size + 1, 0, none⟩) 3 3, .int .i64 3, .int .i64 7]; rw [hw1]; exact Lies.new _ _ _
  rw [← hw1]
  clear HT hw1
  have k0 := HM1.out.cell 0
  have k1 := HM1.out.cell 1
  have k2 := HM1.out.cell 2
  simp only [List.getElem?_toArray, List.getElem?_cons_zero, List.getElem?_cons_succ] at k0 k1 k2
  go_wp2_with fail
  have HAL := hid (below_alloc w1 (.cells #[.int .i64 4, .int .i64 5] 3))
  refine (of6 m6_c m6_l m6_e1 (some ⟨w.heap.size + 1, 0, none⟩) (some ⟨w1.heap.size, 0, none⟩) 3 2 _ (OM1.out.below HAL.out) fitM (at_two6 w1 4 5) (by decide)).mono ?_
  rintro e w2 ⟨A2, c2, R2, d2, rfl, ho, hi, hb⟩
  have HT := hid (then_b HAL.out hb)
  have OM2 := hid (OM1.out.below HT.out)
  have HM2 := hid (HM1.out.later HT.out)
  have B2 := hid (then_b B1.out HT.out)
  have OB2 := hid ho
  have LB2 := hid hi
  clear ho hi hb k0 k1 k2 HAL HT
  go_upto_region 3 with fail
  obtain ⟨w3, hw3⟩ : ∃ w3, w3 = w2.alloc (.cells #[Value.slice A2 N6.objs.length c2, Value.int .i64 N6.cap, Value.int .i64 N6.last] 24) := ⟨_, rfl⟩
  have HT : Hid (Below w2.heap.size w2 w3) := by show Below _ _ _; rw [hw3]; exact below_alloc _ _
  have OM3 := hid (OM2.out.below HT.out)
  have HM3 := hid (HM2.out.later HT.out)
  have OB3 := hid (OB2.out.below HT.out)
  have LB3 := hid (LB2.out.below HT.out)
  have B3 := hid (then_b B2.out HT.out)
  have CB3 : Hid (Lies w3 w2.heap.size 24 #[Value.slice A2 N6.objs.length c2, Value.int .i64 N6.cap, Value.int .i64 N6.last]) := by show Lies w3 w2.heap.size 24 #[Value.slice A2 N6.objs.length c2, Value.int .i64 N6.cap, Value.int .i64 N6.last]; rw [hw3]; exact Lies.new _ _ _
  rw [← hw3]
  clear HT hw3
  go_upto_region 4 with fail
  obtain ⟨w4, hw4⟩ : ∃ w4, w4 = (w3.alloc (.cells #[.int .i64 0, .int .i64 5, .int .i64 2] 3)).alloc (.cells #[.int .i64 2, .int .i64 0, .slice (some ⟨w3.heap.size, 0, none⟩) 3 3, .string ⟨#[]⟩, .int .i64 0, .int .i64 9, .int .i64 2, .int .i64 0, .slice none 0 0, .string ⟨#[]⟩, .int .i64 0, .int .i64 1] 46) := ⟨_, rfl⟩
  have hz4 : w4.heap.size = w3.heap.size + 1 + 1 := by rw [hw4]; simp
  have HT : Hid (Below w3.heap.size w3 w4) := by show Below _ _ _; rw [hw4]; exact below_alloc2 w3 _ _
  have OM4 := hid (OM3.out.below HT.out)
  have HM4 := hid (HM3.out.later HT.out)
  have OB4 := hid (OB3.out.below HT.out)
  have LB4 := hid (LB3.out.below HT.out)
  have CB4 := hid (CB3.out.later HT.out)
  have B4 := hid (then_b B3.out HT.out)
  have ON4 : Hid (ObsR w4 (some ⟨w3.heap.size + 1, 0, none⟩) N6.objs) := by show ObsR w4 (some ⟨w3.heap.size + 1, 0, none⟩) N6.objs; rw [hw4]; exact n6_start w3
  rw [← hw4, ← hz4]
  clear HT hw4
  clear hz4
  obtain ⟨w5, hw5⟩ : ∃ w5, w5 = w4.alloc (.cells #[.slice (some ⟨w3.heap.size + 1, 0, none⟩) 2 2, .int .i64 3, .int .i64 7] 24) := ⟨_, rfl⟩
  have HT : Hid (Below w4.heap.size w4 w5) := by show Below _ _ _; rw [hw5]; exact below_alloc _ _
  have OM5 := hid (OM4.out.below HT.out)
  have HM5 := hid (HM4.out.later HT.out)
  have OB5 := hid (OB4.out.below HT.out)
  have LB5 := hid (LB4.out.below HT.out)
  have CB5 := hid (CB4.out.later HT.out)
  have ON5 := hid (ON4.out.below HT.out)
  have B5 := hid (then_b B4.out HT.out)
  have NB5 : Hid (Lies w5 w4.heap.size 24 #[.slice (some ⟨w3.heap.size + 1, 0, none⟩) 2 2, .int .i64 3, .int .i64 7]) := by show Lies w5 w4.heap.size 24 #[.slice (some ⟨w3.heap.size + 1, 0, none⟩) 2 2, .int .i64 3, .int .i64 7]; rw [hw5]; exact Lies.new _ _ _
  rw [← hw5]
  clear HT hw5
  have k0 := HM5.out.cell 0
  have k1 := HM5.out.cell 1
  have k2 := HM5.out.cell 2
  simp only [List.getElem?_toArray, List.getElem?_cons_zero, List.getElem?_cons_succ] at k0 k1 k2
  go_wp2_with fail
  have HAL := hid (below_alloc w5 (.cells #[.int .i64 6] 3))
  refine (of6 m6_c3 m6_l3 m6_e2 (some ⟨w.heap.size + 1, 0, none⟩) (some ⟨w5.heap.size, 0, none⟩) 3 1 _ (OM5.out.below HAL.out) fitM (at_one w5 6) (by decide)).mono ?_
  rintro e w6 ⟨A6, c6, R6, d6, rfl, -, -, hb⟩
  have HT := hid (then_b HAL.out hb)
  have OM6 := hid (OM5.out.below HT.out)
  have HM6 := hid (HM5.out.later HT.out)
  have OB6 := hid (OB5.out.below HT.out)
  have LB6 := hid (LB5.out.below HT.out)
  have CB6 := hid (CB5.out.later HT.out)
  have ON6 := hid (ON5.out.below HT.out)
  have NB6 := hid (NB5.out.later HT.out)
  have B6 := hid (then_b B5.out HT.out)
  clear hb k0 k1 k2 HAL HT
  go_upto_region 5 with fail
  obtain ⟨w7, hw7⟩ : ∃ w7, w7 = w6.alloc (.cells #[Value.slice A6 zeroH.objs.length c6, Value.int .i64 zeroH.cap, Value.int .i64 zeroH.last] 24) := ⟨_, rfl⟩
  have HT : Hid (Below w6.heap.size w6 w7) := by show Below _ _ _; rw [hw7]; exact below_alloc _ _
  have OM7 := hid (OM6.out.below HT.out)
  have HM7 := hid (HM6.out.later HT.out)
  have OB7 := hid (OB6.out.below HT.out)
  have LB7 := hid (LB6.out.below HT.out)
  have CB7 := hid (CB6.out.later HT.out)
  have ON7 := hid (ON6.out.below HT.out)
  have NB7 := hid (NB6.out.later HT.out)
  have B7 := hid (then_b B6.out HT.out)
  rw [← hw7]
  clear HT hw7
  have k0 := NB7.out.cell 0
  have k1 := NB7.out.cell 1
  have k2 := NB7.out.cell 2
  simp only [List.getElem?_toArray, List.getElem?_cons_zero, List.getElem?_cons_succ] at k0 k1 k2
  go_upto_region 6 with fail
  clear k0 k1 k2
  obtain ⟨w8, hw8⟩ : ∃ w8, w8 = w7.alloc (.cells #[.slice (some ⟨w3.heap.size + 1, 0, none⟩) 2 2, .int .i64 9, .int .i64 0] 24) := ⟨_, rfl⟩
  have HT : Hid (Below w7.heap.size w7 w8) := by show Below _ _ _; rw [hw8]; exact below_alloc _ _
  have OM8 := hid (OM7.out.below HT.out)
  have HM8 := hid (HM7.out.later HT.out)
  have OB8 := hid (OB7.out.below HT.out)
  have LB8 := hid (LB7.out.below HT.out)
  have CB8 := hid (CB7.out.later HT.out)
  have ON8 := hid (ON7.out.below HT.out)
  have NB8 := hid (NB7.out.later HT.out)
  have B8 := hid (then_b B7.out HT.out)
  have GB8 : Hid (Lies w8 w7.heap.size 24 #[.slice (some ⟨w3.heap.size + 1, 0, none⟩) 2 2, .int .i64 9, .int .i64 0]) := by show Lies w8 w7.heap.size 24 #[.slice (some ⟨w3.heap.size + 1, 0, none⟩) 2 2, .int .i64 9, .int .i64 0]; rw [hw8]; exact Lies.new _ _ _
  rw [← hw8]
  clear HT hw8
  have k0 := CB8.out.cell 0
  have k1 := CB8.out.cell 1
  have k2 := CB8.out.cell 2
  simp only [List.getElem?_toArray, List.getElem?_cons_zero, List.getElem?_cons_succ] at k0 k1 k2
  have n0 := NB8.out.cell 0
  have n1 := NB8.out.cell 1
  have n2 := NB8.out.cell 2
  simp only [List.getElem?_toArray, List.getElem?_cons_zero, List.getElem?_cons_succ] at n0 n1 n2
  go_wp2_with fail
  refine (same_any N6 A2 (some ⟨w3.heap.size + 1, 0, none⟩) c2 2 _ OB8.out ON8.out fitN).mono ?_
  rintro e w9 ⟨rfl, hb⟩
  have HT := hid (hb)
  have OM9 := hid (OM8.out.below HT.out)
  have HM9 := hid (HM8.out.later HT.out)
  have OB9 := hid (OB8.out.below HT.out)
  have LB9 := hid (LB8.out.below HT.out)
  have CB9 := hid (CB8.out.later HT.out)
  have ON9 := hid (ON8.out.below HT.out)
  have NB9 := hid (NB8.out.later HT.out)
  have GB9 := hid (GB8.out.later HT.out)
  have B9 := hid (then_b B8.out HT.out)
  clear hb k0 k1 k2 n0 n1 n2 HT
  go_wp2_with fail
  have HAL := hid (below_alloc w9 (.cells #[.int .i64 0, .int .i64 5] 3))
  refine (ints6 (xs := [0, 5]) (ys := [0, 5]) rfl R2 (some ⟨w9.heap.size, 0, none⟩) d2 2 _ (LB9.out.below HAL.out) (at_two6 w9 0 5) (by decide)).mono ?_
  rintro e w10 ⟨rfl, hb⟩
  have HT := hid (then_b HAL.out hb)
  have OM10 := hid (OM9.out.below HT.out)
  have HM10 := hid (HM9.out.later HT.out)
  have OB10 := hid (OB9.out.below HT.out)
  have LB10 := hid (LB9.out.below HT.out)
  have CB10 := hid (CB9.out.later HT.out)
  have ON10 := hid (ON9.out.below HT.out)
  have NB10 := hid (NB9.out.later HT.out)
  have GB10 := hid (GB9.out.later HT.out)
  have B10 := hid (then_b B9.out HT.out)
  clear hb HAL HT
  have k0 := HM10.out.cell 0
  have k1 := HM10.out.cell 1
  have k2 := HM10.out.cell 2
  simp only [List.getElem?_toArray, List.getElem?_cons_zero, List.getElem?_cons_succ] at k0 k1 k2
  have n0 := (GB10.out.alloc (.cells #[.int .i64 4] 3)).cell 0
  have n1 := (GB10.out.alloc (.cells #[.int .i64 4] 3)).cell 1
  have n2 := (GB10.out.alloc (.cells #[.int .i64 4] 3)).cell 2
  simp only [List.getElem?_toArray, List.getElem?_cons_zero, List.getElem?_cons_succ] at n0 n1 n2
  go_wp2_with fail
  have HAL := hid (below_alloc2 w10 (.cells #[.int .i64 4] 3) (.cells #[.int .i64 0] 3))
  refine (same6 sa_1 (some ⟨w.heap.size + 1, 0, none⟩) (some ⟨w3.heap.size + 1, 0, none⟩) (some ⟨w10.heap.size, 0, none⟩) (some ⟨w10.heap.size + 1, 0, none⟩) 3 2 1 1 _ (OM10.out.below HAL.out) fitM ((at_one w10 4).below (below_alloc _ _)) (by decide) (ON10.out.below HAL.out) fitG (at_one6 w10 4 0) (by decide)).mono ?_
  rintro e w11 ⟨rfl, hb⟩
  have HT := hid (then_b HAL.out hb)
  have OM11 := hid (OM10.out.below HT.out)
  have HM11 := hid (HM10.out.later HT.out)
  have OB11 := hid (OB10.out.below HT.out)
  have LB11 := hid (LB10.out.below HT.out)
  have CB11 := hid (CB10.out.later HT.out)
  have ON11 := hid (ON10.out.below HT.out)
  have NB11 := hid (NB10.out.later HT.out)
  have GB11 := hid (GB10.out.later HT.out)
  have B11 := hid (then_b B10.out HT.out)
  clear hb k0 k1 k2 n0 n1 n2 HAL HT
  have k0 := HM11.out.cell 0
  have k1 := HM11.out.cell 1
  have k2 := HM11.out.cell 2
  simp only [List.getElem?_toArray, List.getElem?_cons_zero, List.getElem?_cons_succ] at k0 k1 k2
  have n0 := (GB11.out.alloc (.cells #[.int .i64 4] 3)).cell 0
  have n1 := (GB11.out.alloc (.cells #[.int .i64 4] 3)).cell 1
  have n2 := (GB11.out.alloc (.cells #[.int .i64 4] 3)).cell 2
  simp only [List.getElem?_toArray, List.getElem?_cons_zero, List.getElem?_cons_succ] at n0 n1 n2
  go_wp2_with fail
  have HAL := hid (below_alloc2 w11 (.cells #[.int .i64 4] 3) (.cells #[.int .i64 2] 3))
  refine (same6 sa_2 (some ⟨w.heap.size + 1, 0, none⟩) (some ⟨w3.heap.size + 1, 0, none⟩) (some ⟨w11.heap.size, 0, none⟩) (some ⟨w11.heap.size + 1, 0, none⟩) 3 2 1 1 _ (OM11.out.below HAL.out) fitM ((at_one w11 4).below (below_alloc _ _)) (by decide) (ON11.out.below HAL.out) fitG (at_one6 w11 4 2) (by decide)).mono ?_
  rintro e w12 ⟨rfl, hb⟩
  have HT := hid (then_b HAL.out hb)
  have OM12 := hid (OM11.out.below HT.out)
  have HM12 := hid (HM11.out.later HT.out)
  have OB12 := hid (OB11.out.below HT.out)
  have LB12 := hid (LB11.out.below HT.out)
  have CB12 := hid (CB11.out.later HT.out)
  have ON12 := hid (ON11.out.below HT.out)
  have NB12 := hid (NB11.out.later HT.out)
  have GB12 := hid (GB11.out.later HT.out)
  have B12 := hid (then_b B11.out HT.out)
  clear hb k0 k1 k2 n0 n1 n2 HAL HT
  have k0 := HM12.out.cell 0
  have k1 := HM12.out.cell 1
  have k2 := HM12.out.cell 2
  simp only [List.getElem?_toArray, List.getElem?_cons_zero, List.getElem?_cons_succ] at k0 k1 k2
  have n0 := (HM12.out.alloc (.cells #[.int .i64 4] 3)).cell 0
  have n1 := (HM12.out.alloc (.cells #[.int .i64 4] 3)).cell 1
  have n2 := (HM12.out.alloc (.cells #[.int .i64 4] 3)).cell 2
  simp only [List.getElem?_toArray, List.getElem?_cons_zero, List.getElem?_cons_succ] at n0 n1 n2
  go_wp2_with fail
  have HAL := hid (below_alloc2 w12 (.cells #[.int .i64 4] 3) (.cells #[.int .i64 6] 3))
  refine (same6 sa_3 (some ⟨w.heap.size + 1, 0, none⟩) (some ⟨w.heap.size + 1, 0, none⟩) (some ⟨w12.heap.size, 0, none⟩) (some ⟨w12.heap.size + 1, 0, none⟩) 3 3 1 1 _ (OM12.out.below HAL.out) fitM ((at_one w12 4).below (below_alloc _ _)) (by decide) (OM12.out.below HAL.out) fitM (at_one6 w12 4 6) (by decide)).mono ?_
  rintro e w13 ⟨rfl, hb⟩
  have HT := hid (then_b HAL.out hb)
  have OM13 := hid (OM12.out.below HT.out)
  have HM13 := hid (HM12.out.later HT.out)
  have OB13 := hid (OB12.out.below HT.out)
  have LB13 := hid (LB12.out.below HT.out)
  have CB13 := hid (CB12.out.later HT.out)
  have ON13 := hid (ON12.out.below HT.out)
  have NB13 := hid (NB12.out.later HT.out)
  have GB13 := hid (GB12.out.later HT.out)
  have B13 := hid (then_b B12.out HT.out)
  clear hb k0 k1 k2 n0 n1 n2 HAL HT
  go_wp2_with fail
  go_ret
  exact ⟨rfl, B13.out⟩
end Go.Proofs.Ytjpibkcbgogfoaa
