/- The calls of mark whose answers the document fixes. -/
import Derived.Test.YtpeojbkbeigahaaML
import Derived.Test.YtpeojbkbeigahaaMQ
import Derived.Test.YtpeojbkbeigahaaFX
namespace Go.Proofs.Ytpeojbkbeigahaa
open Go.RowKit
set_option maxRecDepth 100000
def M4 : Hp := ⟨[⟨0, 0, [], ⟨#[]⟩, 0, 0⟩, ⟨2, 0, [7], ⟨#[]⟩, 0, 0⟩, ⟨0, 0, [2], ⟨#[]⟩, 0, 0⟩], 3, 0⟩
theorem m4_may : mayB M4 = true := by decide +kernel
theorem m4_e1 : liE M4 [2] = 0 := by decide +kernel
theorem m4_e2 : liE M4 [4, 9] = 0 := by decide +kernel
theorem m4_e3 : liE M4 [6] = 31 := by decide +kernel
theorem m4_e4 : liE zeroH [] = 1 := by decide +kernel
theorem m4_l1 : liL M4 [2] = [1] := by
  unfold liL; rw [if_pos m4_e1, live_marks]; decide +kernel
theorem m4_l2 : liL M4 [4, 9] = [0, 1, 2] := by
  unfold liL; rw [if_pos m4_e2, live_marks]; decide +kernel
theorem m4_l3 : liL M4 [6] = [] := by unfold liL; rw [m4_e3]; rfl
theorem zero_l : liL zeroH [] = [] := by unfold liL; rw [m4_e4]; rfl
theorem m4_h1 : mhB M4 [2] 2 = true := by unfold mhB; rw [m4_l1]; decide +kernel
theorem m4_h2 : mhB M4 [2] 0 = false := by unfold mhB; rw [m4_l1]; decide +kernel
theorem m4_h3 : mhB M4 [2] 7 = false := by unfold mhB; rw [m4_l1]; decide +kernel
theorem fit4 : M4.Fit := may_fit m4_may
theorem one_int (w : World) (x : Int) : IntsR (w.alloc (.cells #[.int .i64 x] 3)) (some ⟨w.heap.size, 0, none⟩) [x] := fun _ => by
  refine ⟨w.heap.size, 0, rfl, by simp, fun j y hy => ?_⟩
  have := (Lies.new w 3 #[.int .i64 x]).cell j
  rw [Nat.zero_add, this]
  cases j with
  | zero => simp at hy ⊢; exact hy
  | succ j => simp at hy
theorem two_int (w : World) (x y : Int) : IntsR (w.alloc (.cells #[.int .i64 x, .int .i64 y] 3)) (some ⟨w.heap.size, 0, none⟩) [x, y] := fun _ => by
  refine ⟨w.heap.size, 0, rfl, by simp, fun j z hz => ?_⟩
  have := (Lies.new w 3 #[.int .i64 x, .int .i64 y]).cell j
  rw [Nat.zero_add, this]
  match j with
  | 0 => simp at hz ⊢; exact hz
  | 1 => simp at hz ⊢; exact hz
  | j + 2 => simp at hz
theorem three_int (w : World) (x y u : Int) : IntsR (w.alloc (.cells #[.int .i64 x, .int .i64 y, .int .i64 u] 3)) (some ⟨w.heap.size, 0, none⟩) [x, y, u] := fun _ => by
  refine ⟨w.heap.size, 0, rfl, by simp, fun j z hz => ?_⟩
  have := (Lies.new w 3 #[.int .i64 x, .int .i64 y, .int .i64 u]).cell j
  rw [Nat.zero_add, this]
  match j with
  | 0 => simp at hz ⊢; exact hz
  | 1 => simp at hz ⊢; exact hz
  | 2 => simp at hz ⊢; exact hz
  | j + 3 => simp at hz
def OC4 (s : Nat) : Array Value := #[.int .i64 0, .int .i64 0, .slice none 0 0, .string ⟨#[]⟩, .int .i64 0, .int .i64 0, .int .i64 2, .int .i64 0, .slice (some ⟨s, 0, none⟩) 1 1, .string ⟨#[]⟩, .int .i64 0, .int .i64 0, .int .i64 0, .int .i64 0, .slice (some ⟨s + 1, 0, none⟩) 1 1, .string ⟨#[]⟩, .int .i64 0, .int .i64 0]
theorem m4_obs (w : World) : ObsR (((w.alloc (.cells #[.int .i64 7] 3)).alloc (.cells #[.int .i64 2] 3)).alloc (.cells (OC4 w.heap.size) 46)) (some ⟨w.heap.size + 1 + 1, 0, none⟩) M4.objs := fun _ => by
  have k0 := (((one_int w 7).below (below_alloc _ (.cells #[.int .i64 2] 3))).below (below_alloc _ (.cells (OC4 w.heap.size) 46)))
  have k1 := ((one_int (w.alloc (.cells #[.int .i64 7] 3)) 2).below (below_alloc _ (.cells (OC4 w.heap.size) 46)))
  have k2 := Lies.new ((w.alloc (.cells #[.int .i64 7] 3)).alloc (.cells #[.int .i64 2] 3)) 46 (OC4 w.heap.size)
  simp only [World.size_alloc] at k1 k2
  refine ⟨w.heap.size + 1 + 1, 0, rfl, by simp, fun i o ho => ?_⟩
  match i with
  | 0 =>
    obtain rfl : (⟨0, 0, [], ⟨#[]⟩, 0, 0⟩ : Ob) = o := by simpa [M4] using ho
    exact ⟨none, 0, ⟨by rw [k2.cell]; rfl, by rw [k2.cell]; rfl, by rw [k2.cell]; rfl, by rw [k2.cell]; rfl, by rw [k2.cell]; rfl, by rw [k2.cell]; rfl⟩, fun hn => by simp at hn, Nat.le_refl _, fun _ => rfl⟩
  | 1 =>
    obtain rfl : (⟨2, 0, [7], ⟨#[]⟩, 0, 0⟩ : Ob) = o := by simpa [M4] using ho
    exact ⟨some ⟨w.heap.size, 0, none⟩, 1, ⟨by rw [k2.cell]; rfl, by rw [k2.cell]; rfl, by rw [k2.cell]; rfl, by rw [k2.cell]; rfl, by rw [k2.cell]; rfl, by rw [k2.cell]; rfl⟩, k0, Nat.le_refl _, fun e => by cases e⟩
  | 2 =>
    obtain rfl : (⟨0, 0, [2], ⟨#[]⟩, 0, 0⟩ : Ob) = o := by simpa [M4] using ho
    exact ⟨some ⟨w.heap.size + 1, 0, none⟩, 1, ⟨by rw [k2.cell]; rfl, by rw [k2.cell]; rfl, by rw [k2.cell]; rfl, by rw [k2.cell]; rfl, by rw [k2.cell]; rfl, by rw [k2.cell]; rfl⟩, k1, Nat.le_refl _, fun e => by cases e⟩
  | i + 3 => simp [M4] at ho
theorem m4_start (w : World) : ∃ W, W = (((w.alloc (.cells #[.int .i64 7] 3)).alloc (.cells #[.int .i64 2] 3)).alloc (.cells (OC4 w.heap.size) 46)).alloc (.cells #[.slice (some ⟨w.heap.size + 1 + 1, 0, none⟩) 3 3, .int .i64 3, .int .i64 0] 24) ∧
    ObsR W (some ⟨w.heap.size + 1 + 1, 0, none⟩) M4.objs ∧ Lies W (w.heap.size + 1 + 1 + 1) 24 #[.slice (some ⟨w.heap.size + 1 + 1, 0, none⟩) 3 3, .int .i64 3, .int .i64 0] ∧ Below w.heap.size w W ∧ W.heap.size = w.heap.size + 1 + 1 + 1 + 1 := by
  refine ⟨_, rfl, (m4_obs w).below (below_alloc _ _), ?_, ?_, by simp⟩
  · have := Lies.new (((w.alloc (.cells #[.int .i64 7] 3)).alloc (.cells #[.int .i64 2] 3)).alloc (.cells (OC4 w.heap.size) 46)) 24 #[.slice (some ⟨w.heap.size + 1 + 1, 0, none⟩) 3 3, .int .i64 3, .int .i64 0]
    simpa using this
  · exact ((((below_alloc w _).alloc (by simp) _).alloc (by simp; omega) _).alloc (by simp; omega) _)
theorem int_alloc (w : World) (x : Int) : Below w.heap.size w (w.alloc (.cells #[.int .i64 x] 3)) := below_alloc _ _
theorem live4 {h : Hp} {rs L : List Int} {en : Int} (hl : liL h rs = L) (he : liE h rs = en) (A R : Option Addr) (c d : Nat) (w : World) (hs : ObsR w A h.objs) (fit : h.Fit) (hr : IntsR w R rs) (hk : rs.length ≤ 9223372036854775807) :
    Calls Try.prog 36 #[.agg #[.slice A h.objs.length c, .int .i64 h.cap, .int .i64 h.last], .slice R rs.length d] w (IntsTwo w L en) := by subst hl he; exact live_any h rs A R c d w hs fit hr hk
theorem has4 {h : Hp} {rs : List Int} {v : Int} {b : Bool} (hb : mhB h rs v = b) (A R : Option Addr) (c d : Nat) (w : World) (hs : ObsR w A h.objs) (fit : h.Fit) (hr : IntsR w R rs) (hk : rs.length ≤ 9223372036854775807) :
    Calls Try.prog 39 #[.agg #[.slice A h.objs.length c, .int .i64 h.cap, .int .i64 h.last], .slice R rs.length d, .int .i64 v] w fun e w' => e = .returned (.bool b) ∧ Below w.heap.size w w' := by subst hb; exact mhas_any h rs v A R c d w hs fit hr hk
theorem ints4 {xs ys : List Int} (e : xs = ys) (A B : Option Addr) (c d : Nat) (w : World) (ha : IntsR w A xs) (hb : IntsR w B ys) (hx : xs.length ≤ 9223372036854775807) :
    Calls Try.prog 38 #[.slice A xs.length c, .slice B ys.length d] w fun e w' => e = .returned (.bool true) ∧ Below w.heap.size w w' := by
  have := rints_any xs ys A B c d w ha hb hx
  simpa [e] using this
set_option maxHeartbeats 4000000 in
theorem fixed4_any (w : World) : Calls Try.prog 35 #[] w fun e w' => e = .returned (.bool true) ∧ Below w.heap.size w w' := by
  obtain ⟨W, hW, hO, hX, hB, hz⟩ := m4_start w
  unfold OC4 at hW
  go_enter Try.func35, Try.ntmps35
  go_wp2_with fail
  rw [← hW]
  have O0 := hid hO
  have X0 := hid hX
  have B0 := hid hB
  clear hW hO hX hB
  rw [← hz]
  have HAL := hid (below_alloc W (.cells #[.int .i64 2] 3))
  have HI := hid (one_int W 2)
  refine (live4 m4_l1 m4_e1 (some ⟨w.heap.size + 1 + 1, 0, none⟩) (some ⟨W.heap.size, 0, none⟩) 3 1 _ (O0.out.below HAL.out) fit4 HI.out (by decide)).mono ?_
  rintro e w1 ⟨A1, c1, rfl, hi, hn, hc, hb⟩
  have HB := hid (HAL.out.trans (hb.mono (by simp)))
  have O1 := hid (O0.out.below HB.out)
  have X1 := hid (X0.out.later HB.out)
  have B1 := hid (B0.out.trans (HB.out.mono B0.out.size))
  have LA1 := hid hi
  clear hi hn hc hb HB HAL HI
  have b0 := X1.out.cell 0
  have b1 := X1.out.cell 1
  have b2 := X1.out.cell 2
  simp only [List.getElem?_toArray, List.getElem?_cons_zero, List.getElem?_cons_succ] at b0 b1 b2
  go_wp2_with fail
  clear b0 b1 b2
  have HAL := hid (below_alloc w1 (.cells #[.int .i64 4, .int .i64 9] 3))
  have HI := hid (two_int w1 4 9)
  refine (live4 m4_l2 m4_e2 (some ⟨w.heap.size + 1 + 1, 0, none⟩) (some ⟨w1.heap.size, 0, none⟩) 3 2 _ (O1.out.below HAL.out) fit4 HI.out (by decide)).mono ?_
  rintro e w2 ⟨A2, c2, rfl, hi, hn, hc, hb⟩
  have HB := hid (HAL.out.trans (hb.mono (by simp)))
  have O2 := hid (O1.out.below HB.out)
  have LA2 := hid (LA1.out.below HB.out)
  have X2 := hid (X1.out.later HB.out)
  have B2 := hid (B1.out.trans (HB.out.mono B1.out.size))
  have LB2 := hid hi
  clear hi hn hc hb HB HAL HI
  have b0 := X2.out.cell 0
  have b1 := X2.out.cell 1
  have b2 := X2.out.cell 2
  simp only [List.getElem?_toArray, List.getElem?_cons_zero, List.getElem?_cons_succ] at b0 b1 b2
  go_wp2_with fail
  clear b0 b1 b2
  have HAL := hid (below_alloc w2 (.cells #[.int .i64 6] 3))
  have HI := hid (one_int w2 6)
  refine (live4 m4_l3 m4_e3 (some ⟨w.heap.size + 1 + 1, 0, none⟩) (some ⟨w2.heap.size, 0, none⟩) 3 1 _ (O2.out.below HAL.out) fit4 HI.out (by decide)).mono ?_
  rintro e w3 ⟨A3, c3, rfl, hi, hn, hc, hb⟩
  have HB := hid (HAL.out.trans (hb.mono (by simp)))
  have O3 := hid (O2.out.below HB.out)
  have LA3 := hid (LA2.out.below HB.out)
  have LB3 := hid (LB2.out.below HB.out)
  have X3 := hid (X2.out.later HB.out)
  have B3 := hid (B2.out.trans (HB.out.mono B2.out.size))
  clear hi hn hc hb HB HAL HI
  have b0 := X3.out.cell 0
  have b1 := X3.out.cell 1
  have b2 := X3.out.cell 2
  simp only [List.getElem?_toArray, List.getElem?_cons_zero, List.getElem?_cons_succ] at b0 b1 b2
  go_wp2_with fail
  clear b0 b1 b2
  refine (live4 (rs := []) zero_l m4_e4 none none 0 0 _ (fun hn => by simp [zeroH] at hn) fitZ (fun hn => by simp at hn) (by decide)).mono ?_
  rintro e w4 ⟨A4, c4, rfl, hi, hn, hc, hb⟩
  have O4 := hid (O3.out.below hb)
  have LA4 := hid (LA3.out.below hb)
  have LB4 := hid (LB3.out.below hb)
  have X4 := hid (X3.out.later hb)
  have B4 := hid (B3.out.trans (hb.mono B3.out.size))
  clear hi hn hc hb
  have b0 := X4.out.cell 0
  have b1 := X4.out.cell 1
  have b2 := X4.out.cell 2
  simp only [List.getElem?_toArray, List.getElem?_cons_zero, List.getElem?_cons_succ] at b0 b1 b2
  go_wp2_with fail
  clear b0 b1 b2
  have HAL := hid (below_alloc w4 (.cells #[.int .i64 1] 3))
  have HI := hid (one_int w4 1)
  refine (ints4 (xs := [1]) (ys := [1]) rfl A1 (some ⟨w4.heap.size, 0, none⟩) c1 1 _ (LA4.out.below HAL.out) HI.out (by decide)).mono ?_
  rintro e w5 ⟨rfl, hb⟩
  have HB := hid (HAL.out.trans (hb.mono (by simp)))
  have O5 := hid (O4.out.below HB.out)
  have LA5 := hid (LA4.out.below HB.out)
  have LB5 := hid (LB4.out.below HB.out)
  have X5 := hid (X4.out.later HB.out)
  have B5 := hid (B4.out.trans (HB.out.mono B4.out.size))
  clear hb HB HAL HI
  have b0 := X5.out.cell 0
  have b1 := X5.out.cell 1
  have b2 := X5.out.cell 2
  simp only [List.getElem?_toArray, List.getElem?_cons_zero, List.getElem?_cons_succ] at b0 b1 b2
  go_wp2_with fail
  clear b0 b1 b2
  have HAL := hid (below_alloc w5 (.cells #[.int .i64 0, .int .i64 1, .int .i64 2] 3))
  have HI := hid (three_int w5 0 1 2)
  refine (ints4 (xs := [0, 1, 2]) (ys := [0, 1, 2]) rfl A2 (some ⟨w5.heap.size, 0, none⟩) c2 3 _ (LB5.out.below HAL.out) HI.out (by decide)).mono ?_
  rintro e w6 ⟨rfl, hb⟩
  have HB := hid (HAL.out.trans (hb.mono (by simp)))
  have O6 := hid (O5.out.below HB.out)
  have LA6 := hid (LA5.out.below HB.out)
  have LB6 := hid (LB5.out.below HB.out)
  have X6 := hid (X5.out.later HB.out)
  have B6 := hid (B5.out.trans (HB.out.mono B5.out.size))
  clear hb HB HAL HI
  have b0 := X6.out.cell 0
  have b1 := X6.out.cell 1
  have b2 := X6.out.cell 2
  simp only [List.getElem?_toArray, List.getElem?_cons_zero, List.getElem?_cons_succ] at b0 b1 b2
  go_wp2_with fail
  clear b0 b1 b2
  have HAL := hid (below_alloc w6 (.cells #[.int .i64 2] 3))
  have HI := hid (one_int w6 2)
  refine (has4 (v := 2) m4_h1 (some ⟨w.heap.size + 1 + 1, 0, none⟩) (some ⟨w6.heap.size, 0, none⟩) 3 1 _ (O6.out.below HAL.out) fit4 HI.out (by decide)).mono ?_
  rintro e w7 ⟨rfl, hb⟩
  have HB := hid (HAL.out.trans (hb.mono (by simp)))
  have O7 := hid (O6.out.below HB.out)
  have LA7 := hid (LA6.out.below HB.out)
  have LB7 := hid (LB6.out.below HB.out)
  have X7 := hid (X6.out.later HB.out)
  have B7 := hid (B6.out.trans (HB.out.mono B6.out.size))
  clear hb HB HAL HI
  have b0 := X7.out.cell 0
  have b1 := X7.out.cell 1
  have b2 := X7.out.cell 2
  simp only [List.getElem?_toArray, List.getElem?_cons_zero, List.getElem?_cons_succ] at b0 b1 b2
  go_wp2_with fail
  clear b0 b1 b2
  have HAL := hid (below_alloc w7 (.cells #[.int .i64 2] 3))
  have HI := hid (one_int w7 2)
  refine (has4 (v := 0) m4_h2 (some ⟨w.heap.size + 1 + 1, 0, none⟩) (some ⟨w7.heap.size, 0, none⟩) 3 1 _ (O7.out.below HAL.out) fit4 HI.out (by decide)).mono ?_
  rintro e w8 ⟨rfl, hb⟩
  have HB := hid (HAL.out.trans (hb.mono (by simp)))
  have O8 := hid (O7.out.below HB.out)
  have LA8 := hid (LA7.out.below HB.out)
  have LB8 := hid (LB7.out.below HB.out)
  have X8 := hid (X7.out.later HB.out)
  have B8 := hid (B7.out.trans (HB.out.mono B7.out.size))
  clear hb HB HAL HI
  have b0 := X8.out.cell 0
  have b1 := X8.out.cell 1
  have b2 := X8.out.cell 2
  simp only [List.getElem?_toArray, List.getElem?_cons_zero, List.getElem?_cons_succ] at b0 b1 b2
  go_wp2_with fail
  clear b0 b1 b2
  have HAL := hid (below_alloc w8 (.cells #[.int .i64 2] 3))
  have HI := hid (one_int w8 2)
  refine (has4 (v := 7) m4_h3 (some ⟨w.heap.size + 1 + 1, 0, none⟩) (some ⟨w8.heap.size, 0, none⟩) 3 1 _ (O8.out.below HAL.out) fit4 HI.out (by decide)).mono ?_
  rintro e w9 ⟨rfl, hb⟩
  have HB := hid (HAL.out.trans (hb.mono (by simp)))
  have O9 := hid (O8.out.below HB.out)
  have LA9 := hid (LA8.out.below HB.out)
  have LB9 := hid (LB8.out.below HB.out)
  have X9 := hid (X8.out.later HB.out)
  have B9 := hid (B8.out.trans (HB.out.mono B8.out.size))
  clear hb HB HAL HI
  have b0 := X9.out.cell 0
  have b1 := X9.out.cell 1
  have b2 := X9.out.cell 2
  simp only [List.getElem?_toArray, List.getElem?_cons_zero, List.getElem?_cons_succ] at b0 b1 b2
  go_wp2_with fail
  clear b0 b1 b2
  go_ret
  exact ⟨rfl, B9.out⟩
end Go.Proofs.Ytpeojbkbeigahaa
