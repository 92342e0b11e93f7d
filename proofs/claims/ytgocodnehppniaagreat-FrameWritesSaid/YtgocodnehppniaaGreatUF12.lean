/- Small, of a heap that lies in memory: what is small has few slots. -/
import Derived.Test.YtgocodnehppniaaGreatS
namespace Go.Proofs.YtgocodnehppniaaGreat
open Go.RowKit
/-- slots and texts lie in memory -/
def Hp.Mem (h : Hp) : Prop := ∀ o ∈ h.objs, o.slots.length ≤ 17592186044416 ∧ o.text.size ≤ 140737488351232
def SmallP12 (w : World) (h : Hp) (e : Ending) (w' : World) : Prop := ∃ b, e = .returned (.bool b) ∧ (b = true → ∀ o ∈ h.objs, o.slots.length ≤ 5000) ∧ Below w.heap.size w w'
set_option maxRecDepth 100000 in
set_option maxHeartbeats 4000000 in
theorem small_mod12 (h : Hp) (A : Option Addr) (c : Nat) (w : World) (hs : ObsR w A h.objs) (fit : h.Fit) (mem : h.Mem) :
    Calls Tryz.prog 9 #[.agg #[.slice A h.objs.length c, .int .i64 h.cap, .int .i64 h.last]] w (SmallP12 w h) := by
  have HB0 := hid (below_alloc w (.cells #[Value.slice A h.objs.length c, Value.int .i64 h.cap, Value.int .i64 h.last] 24))
  have HX := hid (BoxH.new w h A c)
  have HS := hid hs
  have HM := hid mem
  have hl : h.objs.length ≤ 9223372036854775807 := fit.1
  clear hs fit mem
  go_enter Tryz.func9, Tryz.ntmps9
  go_wp2
  go_loopw [3, 4] (fun n i wr => ∃ (k : Nat) (z : Int), k ≤ h.objs.length ∧ i = .int .i64 k ∧ n = .int .i64 z ∧ Below w.heap.size w wr ∧ BoxH wr w.heap.size h A c ∧ Hid (0 ≤ z ∧ z ≤ 200000000000000 ∧ ∀ o ∈ h.objs.take k, (o.slots.length : Int) ≤ z)) (fun _ i _ => h.objs.length - (intOf i).toNat)
  case atStart => exact ⟨0, 0, Nat.zero_le _, rfl, rfl, HB0.out, HX.out, by decide, by decide, fun o ho => by simp at ho⟩
  case round =>
    obtain ⟨k, z, hk, rfl, rfl, hbw, hX, HZ⟩ := hrel
    have HW := hid hbw
    have HX' := hid hX
    clear hbw HX
    obtain ⟨e0, -, -⟩ := hX
    by_cases hlt : k < h.objs.length
    · by_cases hz : z < 5000
      · obtain ⟨bs, os, rfl, hbs, hcs⟩ := HS.out (by omega)
        obtain ⟨S, d, hob, hin, _⟩ := hcs k _ (List.getElem?_eq_getElem hlt)
        obtain ⟨o, ho⟩ : ∃ o, o = h.objs[k] := ⟨_, rfl⟩
        rw [← ho] at hob
        obtain ⟨c0, c1, c2, c3, c4, c5⟩ := hob.below hbs HW.out
        have HOM := hid (HM.out o (by rw [ho]; exact List.getElem_mem hlt))
        have HO := hid ho
        obtain ⟨sl, hsl⟩ : ∃ s, s = o.slots.length := ⟨_, rfl⟩
        obtain ⟨tl, htl⟩ : ∃ s, s = o.text.size := ⟨_, rfl⟩
        have HSL := hid hsl
        have b1 : sl ≤ 17592186044416 := by rw [hsl]; exact HOM.out.1
        have b2 : tl ≤ 140737488351232 := by rw [htl]; exact HOM.out.2
        have z0 := HZ.out.1
        have hw1 : IntKind.i64.wrap (1 + (o.slots.length : Int)) = 1 + (sl : Int) := by rw [← hsl]; exact IntWalk.i64_in _ ⟨by omega, by omega⟩
        have hw2 : IntKind.i64.wrap (1 + (sl : Int) + (o.text.size : Int)) = 1 + (sl : Int) + (tl : Int) := by rw [← htl]; exact IntWalk.i64_in _ ⟨by omega, by omega⟩
        have hw3 : IntKind.i64.wrap (z + (1 + (sl : Int) + (tl : Int))) = z + (1 + (sl : Int) + (tl : Int)) := IntWalk.i64_in _ ⟨by omega, by omega⟩
        have HN : Hid (0 ≤ z + (1 + (sl : Int) + (tl : Int)) ∧ z + (1 + (sl : Int) + (tl : Int)) ≤ 200000000000000 ∧ ∀ p ∈ h.objs.take (k + 1), (p.slots.length : Int) ≤ z + (1 + (sl : Int) + (tl : Int))) := by
          refine ⟨by omega, by omega, fun p hp => ?_⟩
          rw [List.take_succ_eq_append_getElem hlt] at hp
          rcases List.mem_append.1 hp with hp | hp
          · have := HZ.out.2.2 p hp; omega
          · rw [List.mem_singleton] at hp
            rw [hp, ← HO.out, ← HSL.out]; omega
        clear hcs hob hin ho hsl htl b1 b2 z0
        go_wp2
        go_quiet (fail)
        go_wp2
        go_roundw
        case rel => exact ⟨k + 1, _, by omega, by go_num, rfl, below_go HW.out HW.out.size (below_drewN _ _), HX'.out.later (below_drewN _ _), HN⟩
        case measure => simp [intOf]; omega
      · go_wp2
        all_goals go_ret
        all_goals exact ⟨_, rfl, fun h => by simp_all, HW.out⟩
    · have e : k = h.objs.length := by omega
      by_cases hz : z < 5000
      · have HE : Hid (∀ o ∈ h.objs, o.slots.length ≤ 5000) := fun o ho => by
          have := HZ.out.2.2 o (by rw [e, List.take_length]; exact ho)
          omega
        clear e
        go_wp2
        all_goals go_ret
        all_goals exact ⟨_, rfl, fun _ => HE.out, HW.out⟩
      · clear e
        go_wp2
        all_goals go_ret
        all_goals exact ⟨_, rfl, fun h => by simp_all, HW.out⟩
end Go.Proofs.YtgocodnehppniaaGreat
