/- What may be, of a whole heap: IndexFunc and ContainsFunc over objects, heap.May. -/
import Derived.Test.YtkpfmbdkfgeboaaE
import Derived.Laws.EntriesVeiled
namespace Go.Proofs.Ytkpfmbdkfgeboaa
open Go.RowKit
theorem Hp.Fit.slots {h : Hp} (f : h.Fit) {o : Ob} (ho : o ∈ h.objs) : o.slots.length ≤ 9223372036854775807 := f.2 o ho
set_option maxHeartbeats 1000000 in
theorem idx2_any (h : Hp) (A : Option Addr) (c b bf : Nat) (w : World) (hb : BoxH w b h A c) (hlt : b < w.heap.size) (hf : w.cell? ⟨bf, 0, none⟩ = some (.func (.func 57) #[] #[.pointer (some ⟨b, 0, none⟩)])) (hltf : bf < w.heap.size)
    (hs : ObsR w A h.objs) (fit : h.Fit) (m : Nat) (hm : m = h.objs.length) :
    Calls Try.prog 77 #[.slice A m c, .func (.func 59) #[] #[.pointer (some ⟨b, 0, none⟩), .pointer (some ⟨bf, 0, none⟩)]] w fun e w' => ∃ n : Int, e = .returned (.int .i64 n) ∧ (n < 0 ↔ h.objs.all (obB m) = true) ∧ Below w.heap.size w w' := by
  have hl : m ≤ 9223372036854775807 := by rw [hm]; exact fit.1
  have HM := hid hm
  have HF := hid fit
  have HO := hid hs
  have HX := hid hb
  have HC := hid hf
  clear hm fit hs hb hf
  go_enter Try.func77, Try.ntmps77
  go_wp2
  go_loopw [8] (fun i wr => ∃ k : Nat, k ≤ m ∧ i = .int .i64 k ∧ (h.objs.take k).all (obB m) = true ∧ Below w.heap.size w wr) (fun i _ => m - (intOf i).toNat)
  case atStart => exact ⟨0, Nat.zero_le _, rfl, rfl, Below.refl _ _⟩
  case round =>
    obtain ⟨k, hk, rfl, hall, hbw⟩ := hrel
    by_cases hlt2 : k < m
    · have hkl : k < h.objs.length := by rw [← HM.out]; exact hlt2
      obtain ⟨bs, os, rfl, hbs, hcs⟩ := HO.out (by omega)
      obtain ⟨S, d, hob, hin, hsd⟩ := hcs k _ (List.getElem?_eq_getElem hkl)
      obtain ⟨c0, c1, c2, c3, c4, c5⟩ := hob.below hbs hbw
      have hin' := hid (hin.below hbw)
      have HA := hid hall
      have HW := hid hbw
      have HT : Hid ((h.objs.take (k + 1)).all (obB m) = ((h.objs.take k).all (obB m) && obB m h.objs[k])) := by
        show _ = _
        rw [List.take_succ_eq_append_getElem hkl, List.all_append]; simp
      clear hall hbw hcs hob hin
      have HC' := hid ((HW.out.cell (p := ⟨bf, 0, none⟩) hltf).trans HC.out)
      cases hv : obB m h.objs[k]
      · go_wp2_with fail
        refine (may2_any h h.objs[k] S d (some ⟨bs, os, none⟩) c b bf _ (HX.out.below hlt HW.out) (Nat.lt_of_lt_of_le hlt HW.out.size) HC'.out (Nat.lt_of_lt_of_le hltf HW.out.size) hin'.out (HF.out.slots (List.getElem_mem hkl))).mono ?_
        rintro e w' ⟨rfl, hb⟩
        have hv' : obB h.objs.length h.objs[k] = false := by rw [← HM.out]; exact hv
        have HB := hid hb
        clear hb
        go_wp2
        go_ret
        refine ⟨k, rfl, ?_, HW.out.trans (HB.out.mono HW.out.size)⟩
        constructor
        · intro hh; omega
        · intro hh
          have := List.all_eq_true.1 hh h.objs[k] (List.getElem_mem hkl)
          rw [hv] at this; cases this
      · go_wp2_with fail
        refine (may2_any h h.objs[k] S d (some ⟨bs, os, none⟩) c b bf _ (HX.out.below hlt HW.out) (Nat.lt_of_lt_of_le hlt HW.out.size) HC'.out (Nat.lt_of_lt_of_le hltf HW.out.size) hin'.out (HF.out.slots (List.getElem_mem hkl))).mono ?_
        rintro e w' ⟨rfl, hb⟩
        have hv' : obB h.objs.length h.objs[k] = true := by rw [← HM.out]; exact hv
        have HB := hid hb
        clear hb
        go_wp2
        go_roundw
        case rel => exact ⟨k + 1, by omega, by go_num, by rw [HT.out, HA.out, hv]; rfl, HW.out.trans (HB.out.mono HW.out.size)⟩
        case measure => simp [intOf]; omega
    · have e : k = m := by omega
      have HA := hid hall
      have HW := hid hbw
      clear hall hbw
      go_wp2
      go_ret
      refine ⟨-1, rfl, ⟨fun _ => ?_, fun _ => by omega⟩, HW.out⟩
      have := HA.out
      rwa [e, HM.out, List.take_length, ← HM.out] at this
set_option maxHeartbeats 1000000 in
theorem con2_any (h : Hp) (A : Option Addr) (c b bf : Nat) (w : World) (hb : BoxH w b h A c) (hlt : b < w.heap.size) (hf : w.cell? ⟨bf, 0, none⟩ = some (.func (.func 57) #[] #[.pointer (some ⟨b, 0, none⟩)])) (hltf : bf < w.heap.size)
    (hs : ObsR w A h.objs) (fit : h.Fit) (m : Nat) (hm : m = h.objs.length) :
    Calls Try.prog 63 #[.slice A m c, .func (.func 59) #[] #[.pointer (some ⟨b, 0, none⟩), .pointer (some ⟨bf, 0, none⟩)]] w fun e w' => e = .returned (.bool (!h.objs.all (obB m))) ∧ Below w.heap.size w w' := by
  have K := hid (idx2_any h A c b bf w hb hlt hf hltf hs fit m hm)
  clear hs fit hlt hb hf hltf hm
  go_enter Try.func63, Try.ntmps63
  go_wp2_with fail
  refine K.out.mono ?_
  rintro e w' ⟨n, rfl, hn, hb⟩
  have e2 : (!h.objs.all (obB m)) = decide (0 ≤ n) := by
    cases hx : h.objs.all (obB m) <;> rw [hx] at hn <;> simp at hn ⊢ <;> omega
  have E2 := hid e2
  clear hn e2 K
  go_wp2
  go_ret
  exact ⟨by rw [E2.out]; rfl, hb⟩
theorem BoxH.new (w : World) (h : Hp) (A : Option Addr) (c : Nat) : BoxH (w.alloc (.cells #[Value.slice A h.objs.length c, Value.int .i64 h.cap, Value.int .i64 h.last] 24)) w.heap.size h A c :=
  ⟨by go_simp, by go_simp, by go_simp⟩
set_option maxHeartbeats 1000000 in
theorem may_any (h : Hp) (A : Option Addr) (c : Nat) (w : World) (hs : ObsR w A h.objs) (fit : h.Fit) :
    Calls Try.prog 37 #[.agg #[.slice A h.objs.length c, .int .i64 h.cap, .int .i64 h.last]] w fun e w' => e = .returned (.bool (mayB h)) ∧ Below w.heap.size w w' := by
  have HB0 := hid (below_alloc w (.cells #[Value.slice A h.objs.length c, Value.int .i64 h.cap, Value.int .i64 h.last] 24))
  have HO := hid hs
  have HF := hid fit
  clear hs fit
  by_cases g1 : h.cap < 1
  · have e : mayB h = false := by unfold mayB; rw [decide_eq_false (by omega)]; rfl
    rw [e]; clear e
    go_enter Try.func37, Try.ntmps37
    go_wp2
    go_ret; exact ⟨rfl, HB0.out⟩
  · have g1' : 1 ≤ h.cap := by omega
    clear g1
    by_cases g2 : 256 < h.cap
    · have e : mayB h = false := by unfold mayB; rw [decide_eq_false (by omega)]; rfl
      rw [e]; clear e
      go_enter Try.func37, Try.ntmps37
      go_wp2
      go_ret; exact ⟨rfl, HB0.out⟩
    · have g2' : h.cap ≤ 256 := by omega
      clear g2
      by_cases g3 : h.cap < (h.objs.length : Int)
      · have e : mayB h = false := by unfold mayB; rw [decide_eq_false (by omega)]; rfl
        rw [e]; clear e
        go_enter Try.func37, Try.ntmps37
        go_wp2
        go_ret; exact ⟨rfl, HB0.out⟩
      · have g3' : (h.objs.length : Int) ≤ h.cap := by omega
        clear g3
        have e : mayB h = (haB h.last && h.objs.all (obB h.objs.length)) := by unfold mayB; rw [decide_eq_true ⟨g1', g2', g3'⟩]; rfl
        rw [e]; clear e
        cases g4 : haB h.last
        · go_enter Try.func37, Try.ntmps37
          go_wp2_with (first | (go_at_call 56; refine (ishash_any _ _).mono ?_; rintro e w' ⟨rfl, rfl⟩))
          go_ret; exact ⟨rfl, HB0.out⟩
        · go_enter Try.func37, Try.ntmps37
          go_wp2_with (first | (go_at_call 56; refine (ishash_any _ _).mono ?_; rintro e w' ⟨rfl, rfl⟩) | (go_at_call 63; refine (con2_any h A c w.heap.size (w.heap.size + 1) _ ?_ ?_ ?_ ?_ ?_ HF.out h.objs.length rfl).mono ?_))
          · exact (BoxH.new w h A c).below (by simp) (below_alloc _ _)
          · simp; omega
          · go_simp
          · simp
          · exact HO.out.below (below_alloc2 _ _ _)
          rintro e w' ⟨rfl, hb⟩
          have HB := hid hb
          clear hb
          go_wp2
          go_ret
          exact ⟨ret_bool (by simp), (below_alloc2 _ _ _).trans (HB.out.mono (by simp; omega))⟩
end Go.Proofs.Ytkpfmbdkfgeboaa
