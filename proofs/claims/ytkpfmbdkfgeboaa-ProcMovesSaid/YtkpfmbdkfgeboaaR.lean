/- The document's answers on what may be, what is wrong with a place, and what is read there. -/
import Derived.Test.YtkpfmbdkfgeboaaD
import Derived.Test.YtkpfmbdkfgeboaaI0
namespace Go.Proofs.Ytkpfmbdkfgeboaa
open Go.RowKit
set_option maxRecDepth 100000 in
set_option maxHeartbeats 4000000 in
theorem rmay_any (h : Hp) (A : Option Addr) (c : Nat) (w : World) (hs : ObsR w A h.objs) (fit : h.Fit) :
    Calls Try.prog 7 #[.agg #[.slice A h.objs.length c, .int .i64 h.cap, .int .i64 h.last]] w fun e w' => e = .returned (.bool (mayB h)) ∧ Below w.heap.size w w' := by
  have HB0 := hid (below_alloc w (.cells #[Value.slice A h.objs.length c, Value.int .i64 h.cap, Value.int .i64 h.last] 24))
  have HX := hid (BoxH.new w h A c)
  have HS := hid hs
  have HF := hid fit
  have hl : h.objs.length ≤ 9223372036854775807 := fit.1
  clear hs fit
  go_enter Try.func7, Try.ntmps7
  go_wp2
  go_loopw [3] (fun i wr => ∃ k : Nat, k ≤ h.objs.length ∧ i = .int .i64 k ∧ (h.objs.take k).all (obB h.objs.length) = true ∧ Below w.heap.size w wr ∧ BoxH wr w.heap.size h A c) (fun i _ => h.objs.length - (intOf i).toNat)
  case atStart => exact ⟨0, Nat.zero_le _, rfl, rfl, HB0.out, HX.out⟩
  case round =>
    obtain ⟨k, hk, rfl, hall, hbw, hX⟩ := hrel
    have HA := hid hall
    have HW := hid hbw
    have HX' := hid hX
    clear hall hbw HX
    obtain ⟨e0, e1, e2⟩ := hX
    by_cases hlt : k < h.objs.length
    · obtain ⟨bs, os, rfl, hbs, hcs⟩ := HS.out (by omega)
      obtain ⟨S, d, hob, hin, _⟩ := hcs k _ (List.getElem?_eq_getElem hlt)
      obtain ⟨c0, c1, c2, c3, c4, c5⟩ := hob.below hbs HW.out
      have HI := hid (hin.below HW.out)
      have hol := HF.out.slots (List.getElem_mem hlt)
      have HT : Hid ((h.objs.take (k + 1)).all (obB h.objs.length) = ((h.objs.take k).all (obB h.objs.length) && obB h.objs.length h.objs[k])) := by
        show _ = _
        rw [List.take_succ_eq_append_getElem hlt, List.all_append]; simp
      obtain ⟨o, ho⟩ : ∃ o, o = h.objs[k] := ⟨_, rfl⟩
      have HO := hid ho
      rw [← ho] at c0 c1 c2 c3 c4 c5 HI hol HT
      clear hcs hob hin ho
      go_wp2
      go_region_held3 (fun w' => w'.cell? ⟨w.heap.size, 0, none⟩ = some (.slice (some ⟨bs, os, none⟩) h.objs.length c) ∧ w'.cell? ⟨w.heap.size, 1, none⟩ = some (.int .i64 h.cap) ∧ w'.cell? ⟨w.heap.size, 2, none⟩ = some (.int .i64 h.last) ∧
          w'.cell? ⟨bs, os + k * 6, none⟩ = some (.int .i64 o.cls) ∧ w'.cell? ⟨bs, os + k * 6 + 1, none⟩ = some (.int .i64 o.kind) ∧ w'.cell? ⟨bs, os + k * 6 + 2, none⟩ = some (.slice S o.slots.length d) ∧ w'.cell? ⟨bs, os + k * 6 + 3, none⟩ = some (.string o.text) ∧ w'.cell? ⟨bs, os + k * 6 + 4, none⟩ = some (.int .i64 o.bits) ∧ w'.cell? ⟨bs, os + k * 6 + 5, none⟩ = some (.int .i64 o.hash))
        (first | exact ⟨e0, e1, e2, c0, c1, c2, c3, c4, c5⟩ | exact ⟨cell_later hb e0, cell_later hb e1, cell_later hb e2, cell_later hb c0, cell_later hb c1, cell_later hb c2, cell_later hb c3, cell_later hb c4, cell_later hb c5⟩)
        (first | (go_at_call 22; refine (robj_any h o S d (some ⟨bs, os, none⟩) c _ (HI.out.below (Below.refl _ _).drew) hol).mono ?_; rintro e w' ⟨rfl, hb⟩))
      have HBW : Hid (Below w.heap.size w w') := below_go HW.out.drew HW.out.size hb
      have HXW : Hid (BoxH w' w.heap.size h (some ⟨bs, os, none⟩) c) := HX'.out.later ((Below.refl _ _).drew.trans hb)
      clear hb e0 e1 e2 c0 c1 c2 c3 c4 c5
      cases hv : obB h.objs.length o
      · go_wp2
        go_ret
        refine ⟨ret_bool ?_, HBW.out⟩
        have : h.objs.all (obB h.objs.length) = false := by
          cases hx : h.objs.all (obB h.objs.length)
          · rfl
          · have := List.all_eq_true.1 hx h.objs[k] (List.getElem_mem hlt)
            rw [← HO.out, hv] at this; cases this
        simp [mayB, this]
      · go_wp2
        go_roundw
        case rel => exact ⟨k + 1, by omega, by go_num, by rw [HT.out, HA.out, hv]; rfl, HBW.out, HXW.out⟩
        case measure => simp [intOf]; omega
    · have HM : Hid (mayB h = (decide (1 ≤ h.cap ∧ h.cap ≤ 256 ∧ (h.objs.length : Int) ≤ h.cap) && haB h.last)) := by
        have := HA.out
        rw [List.take_of_length_le (by omega)] at this
        show _ = _
        unfold mayB; rw [this]; simp
      by_cases g1 : 1 ≤ h.cap
      · by_cases g2 : h.cap ≤ 256
        · by_cases g3 : (h.objs.length : Int) ≤ h.cap
          · go_wp2_with (first | (go_at_call 23; refine (rhash_any _ _).mono ?_; rintro e w' ⟨rfl, rfl⟩))
            go_ret
            exact ⟨ret_bool (by rw [HM.out, decide_eq_true ⟨g1, g2, g3⟩]; rfl), HW.out⟩
          · have g3' : h.cap < (h.objs.length : Int) := by omega
            clear g3
            go_wp2
            go_ret
            exact ⟨ret_bool (by rw [HM.out, decide_eq_false (by omega)]; rfl), HW.out⟩
        · have g2' : 256 < h.cap := by omega
          clear g2
          go_wp2
          go_ret
          exact ⟨ret_bool (by rw [HM.out, decide_eq_false (by omega)]; rfl), HW.out⟩
      · have g1' : h.cap < 1 := by omega
        clear g1
        go_wp2
        go_ret
        exact ⟨ret_bool (by rw [HM.out, decide_eq_false (by omega)]; rfl), HW.out⟩
theorem ret_int {a b : Int} (h : a = b) : Ending.returned (.int .i64 a) = .returned (.int .i64 b) := by rw [h]
end Go.Proofs.Ytkpfmbdkfgeboaa
