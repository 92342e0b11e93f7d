/- The calls of move whose answers the document fixes. -/
import Derived.Test.YtelljlmjhnjpiaaVY
import Derived.Test.YtelljlmjhnjpiaaMQ
import Derived.Test.YtelljlmjhnjpiaaFX
namespace Go.Proofs.Ytelljlmjhnjpiaa
open Go.RowKit
set_option maxRecDepth 100000
def M5 : Hp := ⟨[⟨0, 0, [], ⟨#[]⟩, 0, 0⟩, ⟨0, 0, [4], ⟨#[]⟩, 0, 0⟩, ⟨0, 0, [4, 5, 0], ⟨#[]⟩, 0, 9⟩], 3, 7⟩
def N5 : Hp := ⟨[⟨0, 0, [], ⟨#[]⟩, 0, 0⟩, ⟨0, 0, [2, 5, 0], ⟨#[]⟩, 0, 9⟩], 3, 7⟩
theorem m5_may : mayB M5 = true := by decide +kernel
theorem n5_may : mayB N5 = true := by decide +kernel
theorem m5_e1 : liE M5 [4] = 0 := by decide +kernel
theorem m5_e2 : liE M5 [4, 5] = 0 := by decide +kernel
theorem m5_e3 : liE M5 [6] = 31 := by decide +kernel
theorem fit5 : M5.Fit := may_fit m5_may
theorem liveN_of {h : Hp} {rs : List Int} {L : List Nat} (e : picked (nearN h h.objs.length (marks0 h rs)) = L.map Int.ofNat) : liveN h rs = L := by
  have h1 : liveL h rs = L.map Int.ofNat := by rw [live_marks]; exact e
  exact (List.map_inj_right (fun _ _ h => Int.ofNat.inj h)).1 h1
theorem m5_n1 : liveN M5 [4] = [0, 2] := liveN_of (by decide +kernel)
theorem m5_n2 : liveN M5 [4, 5] = [0, 2] := liveN_of (by decide +kernel)
theorem m5_t1 : tabL M5 [4] = [0, -1, 1] := by rw [tabL_yes m5_e1, m5_n1]; decide +kernel
theorem m5_t2 : tabL M5 [4, 5] = [0, -1, 1] := by rw [tabL_yes m5_e2, m5_n2]; decide +kernel
theorem m5_c : coH M5 [4, 5] = N5 := by rw [coH_yes m5_e2, m5_t2]; rfl
theorem m5_l : coL M5 [4, 5] = [2, 5] := by rw [coL_yes m5_e2, m5_t2]; decide +kernel
theorem m5_c3 : coH M5 [6] = zeroH := coH_no (by rw [m5_e3]; decide)
theorem m5_l3 : coL M5 [6] = [] := coL_no (by rw [m5_e3]; decide)
theorem v5_1 : vaV [0, -1, 1] 4 = 2 := by decide +kernel
theorem v5_2 : vaB [0, -1, 1] 4 = true := by decide +kernel
theorem v5_3 : vaV [0, -1, 1] 2 = 0 := by decide +kernel
theorem v5_4 : vaB [0, -1, 1] 2 = false := by decide +kernel
theorem at_two (w : World) (x y : Int) : IntsR (w.alloc (.cells #[.int .i64 x, .int .i64 y] 3)) (some ⟨w.heap.size, 0, none⟩) [x, y] := fun _ => by
  refine ⟨w.heap.size, 0, rfl, by simp, fun j z hz => ?_⟩
  have := (Lies.new w 3 #[.int .i64 x, .int .i64 y]).cell j
  rw [Nat.zero_add, this]
  match j with
  | 0 => simp at hz ⊢; exact hz
  | 1 => simp at hz ⊢; exact hz
  | j + 2 => simp at hz
theorem at_three (w : World) (x y u : Int) : IntsR (w.alloc (.cells #[.int .i64 x, .int .i64 y, .int .i64 u] 3)) (some ⟨w.heap.size, 0, none⟩) [x, y, u] := fun _ => by
  refine ⟨w.heap.size, 0, rfl, by simp, fun j z hz => ?_⟩
  have := (Lies.new w 3 #[.int .i64 x, .int .i64 y, .int .i64 u]).cell j
  rw [Nat.zero_add, this]
  match j with
  | 0 => simp at hz ⊢; exact hz
  | 1 => simp at hz ⊢; exact hz
  | 2 => simp at hz ⊢; exact hz
  | j + 3 => simp at hz
theorem lies_ints {w : World} {g : Nat} {xs : List Int} (h : Lies w g 3 ((xs.map (Value.int .i64)).toArray)) : IntsR w (some ⟨g, 0, none⟩) xs := fun _ =>
  ⟨g, 0, rfl, h.lt, fun j x hx => by rw [Nat.zero_add, h.cell]; simp [hx]⟩
def OC5 (s : Nat) : Array Value := #[.int .i64 0, .int .i64 0, .slice none 0 0, .string ⟨#[]⟩, .int .i64 0, .int .i64 0, .int .i64 0, .int .i64 0, .slice (some ⟨s, 0, none⟩) 1 1, .string ⟨#[]⟩, .int .i64 0, .int .i64 0, .int .i64 0, .int .i64 0, .slice (some ⟨s + 1, 0, none⟩) 3 3, .string ⟨#[]⟩, .int .i64 0, .int .i64 9]
def OD5 (s : Nat) : Array Value := #[.int .i64 0, .int .i64 0, .slice none 0 0, .string ⟨#[]⟩, .int .i64 0, .int .i64 0, .int .i64 0, .int .i64 0, .slice (some ⟨s, 0, none⟩) 3 3, .string ⟨#[]⟩, .int .i64 0, .int .i64 9]
theorem m5_obs {W : World} {s : Nat} (k0 : Lies W s 3 #[.int .i64 4]) (k1 : Lies W (s + 1) 3 #[.int .i64 4, .int .i64 5, .int .i64 0]) (k2 : Lies W (s + 1 + 1) 46 (OC5 s)) : ObsR W (some ⟨s + 1 + 1, 0, none⟩) M5.objs := fun _ => by
  refine ⟨s + 1 + 1, 0, rfl, k2.lt, fun i o ho => ?_⟩
  match i with
  | 0 =>
    obtain rfl : (⟨0, 0, [], ⟨#[]⟩, 0, 0⟩ : Ob) = o := by simpa [M5] using ho
    exact ⟨none, 0, ⟨by rw [k2.cell]; rfl, by rw [k2.cell]; rfl, by rw [k2.cell]; rfl, by rw [k2.cell]; rfl, by rw [k2.cell]; rfl, by rw [k2.cell]; rfl⟩, fun hn => by simp at hn, Nat.le_refl _, fun _ => rfl⟩
  | 1 =>
    obtain rfl : (⟨0, 0, [4], ⟨#[]⟩, 0, 0⟩ : Ob) = o := by simpa [M5] using ho
    exact ⟨some ⟨s, 0, none⟩, 1, ⟨by rw [k2.cell]; rfl, by rw [k2.cell]; rfl, by rw [k2.cell]; rfl, by rw [k2.cell]; rfl, by rw [k2.cell]; rfl, by rw [k2.cell]; rfl⟩, lies_ints (xs := [4]) k0, Nat.le_refl _, fun e => by cases e⟩
  | 2 =>
    obtain rfl : (⟨0, 0, [4, 5, 0], ⟨#[]⟩, 0, 9⟩ : Ob) = o := by simpa [M5] using ho
    exact ⟨some ⟨s + 1, 0, none⟩, 3, ⟨by rw [k2.cell]; rfl, by rw [k2.cell]; rfl, by rw [k2.cell]; rfl, by rw [k2.cell]; rfl, by rw [k2.cell]; rfl, by rw [k2.cell]; rfl⟩, lies_ints (xs := [4, 5, 0]) k1, Nat.le_refl _, fun e => by cases e⟩
  | i + 3 => simp [M5] at ho
theorem n5_obs {W : World} {s : Nat} (k0 : Lies W s 3 #[.int .i64 2, .int .i64 5, .int .i64 0]) (k2 : Lies W (s + 1) 46 (OD5 s)) : ObsR W (some ⟨s + 1, 0, none⟩) N5.objs := fun _ => by
  refine ⟨s + 1, 0, rfl, k2.lt, fun i o ho => ?_⟩
  match i with
  | 0 =>
    obtain rfl : (⟨0, 0, [], ⟨#[]⟩, 0, 0⟩ : Ob) = o := by simpa [N5] using ho
    exact ⟨none, 0, ⟨by rw [k2.cell]; rfl, by rw [k2.cell]; rfl, by rw [k2.cell]; rfl, by rw [k2.cell]; rfl, by rw [k2.cell]; rfl, by rw [k2.cell]; rfl⟩, fun hn => by simp at hn, Nat.le_refl _, fun _ => rfl⟩
  | 1 =>
    obtain rfl : (⟨0, 0, [2, 5, 0], ⟨#[]⟩, 0, 9⟩ : Ob) = o := by simpa [N5] using ho
    exact ⟨some ⟨s, 0, none⟩, 3, ⟨by rw [k2.cell]; rfl, by rw [k2.cell]; rfl, by rw [k2.cell]; rfl, by rw [k2.cell]; rfl, by rw [k2.cell]; rfl, by rw [k2.cell]; rfl⟩, lies_ints (xs := [2, 5, 0]) k0, Nat.le_refl _, fun e => by cases e⟩
  | i + 2 => simp [N5] at ho
theorem m5_start (w : World) : ObsR (((w.alloc (.cells #[.int .i64 4] 3)).alloc (.cells #[.int .i64 4, .int .i64 5, .int .i64 0] 3)).alloc (.cells (OC5 w.heap.size) 46)) (some ⟨w.heap.size + 1 + 1, 0, none⟩) M5.objs := by
  have k0 := ((Lies.new w 3 #[.int .i64 4]).alloc (.cells #[.int .i64 4, .int .i64 5, .int .i64 0] 3)).alloc (.cells (OC5 w.heap.size) 46)
  have k1 := (Lies.new (w.alloc (.cells #[.int .i64 4] 3)) 3 #[.int .i64 4, .int .i64 5, .int .i64 0]).alloc (.cells (OC5 w.heap.size) 46)
  have k2 := Lies.new ((w.alloc (.cells #[.int .i64 4] 3)).alloc (.cells #[.int .i64 4, .int .i64 5, .int .i64 0] 3)) 46 (OC5 w.heap.size)
  simp only [World.size_alloc] at k1 k2
  exact m5_obs k0 k1 k2
theorem n5_start (w : World) : ObsR ((w.alloc (.cells #[.int .i64 2, .int .i64 5, .int .i64 0] 3)).alloc (.cells (OD5 w.heap.size) 46)) (some ⟨w.heap.size + 1, 0, none⟩) N5.objs := by
  have k0 := (Lies.new w 3 #[.int .i64 2, .int .i64 5, .int .i64 0]).alloc (.cells (OD5 w.heap.size) 46)
  have k2 := Lies.new (w.alloc (.cells #[.int .i64 2, .int .i64 5, .int .i64 0] 3)) 46 (OD5 w.heap.size)
  simp only [World.size_alloc] at k2
  exact n5_obs k0 k2
set_option maxHeartbeats 1000000 in
theorem three_any (w : World) : Calls Try.prog 68 #[] w (HeapOne w M5) := by
  go_enter Try.func68, Try.ntmps68
  go_wp2_with fail
  obtain ⟨w0, hw0⟩ : ∃ w0, w0 = w.alloc (.cells #[.slice (some ⟨w.heap.size + 1 + 1 + 1, 0, none⟩) 3 3, .int .i64 3, .int .i64 7] 24) := ⟨_, rfl⟩
  have hk0 : Lies w0 w.heap.size 24 #[.slice (some ⟨w.heap.size + 1 + 1 + 1, 0, none⟩) 3 3, .int .i64 3, .int .i64 7] := by rw [hw0]; exact Lies.new _ _ _
  have hz0 : w0.heap.size = w.heap.size + 1 := by rw [hw0]; simp
  have hb0 : Below w.heap.size w w0 := by rw [hw0]; exact below_alloc _ _
  rw [← hw0]
  have hO := m5_start w0
  have hb1 : Below w.heap.size w (((w0.alloc (.cells #[.int .i64 4] 3)).alloc (.cells #[.int .i64 4, .int .i64 5, .int .i64 0] 3)).alloc (.cells (OC5 w0.heap.size) 46)) := (((hb0.alloc (by omega) _).alloc (by simp; omega) _).alloc (by simp; omega) _)
  have hk1 := ((hk0.alloc (.cells #[.int .i64 4] 3)).alloc (.cells #[.int .i64 4, .int .i64 5, .int .i64 0] 3)).alloc (.cells (OC5 w0.heap.size) 46)
  unfold OC5 at hO hb1 hk1
  simp only [hz0] at hO hb1 hk1
  have r0 := hk1.cell 0
  have r1 := hk1.cell 1
  have r2 := hk1.cell 2
  simp only [List.getElem?_toArray, List.getElem?_cons_zero, List.getElem?_cons_succ] at r0 r1 r2
  refine bodyPost_ret (v := .agg #[.slice (some ⟨w.heap.size + 1 + 1 + 1, 0, none⟩) 3 3, .int .i64 3, .int .i64 7]) (by simp [results, Try.results68, go_sem, r0, r1, r2]) rfl ?_
  exact ⟨some ⟨w.heap.size + 1 + 1 + 1, 0, none⟩, 3, rfl, hO, hb1⟩
end Go.Proofs.Ytelljlmjhnjpiaa
