/- A place of a heap: the program's word. -/
import Derived.Test.YtkpfmbdkfgeboaaGreatI0
namespace Go.Proofs.YtkpfmbdkfgeboaaGreat
open Go.RowKit
set_option maxRecDepth 100000 in
set_option maxHeartbeats 4000000 in
theorem place_any (h : Hp) (v kind k : Int) (hkk : kind = 0 ∨ kind = 1) (A : Option Addr) (c : Nat) (w : World) (hs : ObsR w A h.objs) (fit : h.Fit) :
    Calls Tryz.prog 155 #[.agg #[.slice A h.objs.length c, .int .i64 h.cap, .int .i64 h.last], .int .i64 v, .int .i64 kind, .int .i64 k] w fun e w' => e = .returned (.tuple #[.int .i64 (plV h v kind k), .int .i64 (plE h v kind k)]) ∧ Below w.heap.size w w' := by
  have HB0 := hid (below_alloc w (.cells #[Value.slice A h.objs.length c, Value.int .i64 h.cap, Value.int .i64 h.last] 24))
  have HX := hid (BoxH.new w h A c)
  have HS := hid hs
  have HF := hid fit
  have HKK := hid hkk
  clear hs fit hkk
  cases hm : mayB h
  · have e1 : plE h v kind k = 1 := by unfold plE; rw [if_pos hm]
    have e2 : plV h v kind k = 0 := by unfold plV; rw [e1]; rfl
    rw [e1, e2]; clear e1 e2
    go_enter Tryz.func155, Tryz.ntmps155
    go_wp2_with fail
    refine (may_any h A c _ (HS.out.below HB0.out) HF.out).mono ?_
    rintro e w1 ⟨rfl, hb1⟩
    have HB1 := hid hb1
    clear hb1
    go_wp2_with fail
    go_ret2
    exact ⟨rfl, HB0.out.trans (HB1.out.mono (by simp))⟩
  · cases hr : refB h.objs.length v
    · have e1 : plE h v kind k = 31 := by unfold plE; rw [if_neg (by rw [hm]; decide), if_pos hr]
      have e2 : plV h v kind k = 0 := by unfold plV; rw [e1]; rfl
      rw [e1, e2]; clear e1 e2
      go_enter Tryz.func155, Tryz.ntmps155
      go_wp2_with fail
      refine (may_any h A c _ (HS.out.below HB0.out) HF.out).mono ?_
      rintro e w1 ⟨rfl, hb1⟩
      obtain ⟨x0, x1, x2⟩ := HX.out.later hb1
      have HB1 := hid (HB0.out.trans (hb1.mono (by simp)))
      clear hb1
      go_wp2_with fail
      refine (find_any h _ A c _).mono ?_
      rintro e w2 ⟨rfl, hb2⟩
      have HB2 := hid (HB1.out.trans (hb2.mono HB1.out.size))
      clear hb2
      go_wp2_with fail
      go_ret2
      exact ⟨rfl, HB2.out⟩
    · obtain ⟨i, hi, hv, ho⟩ := obAt_get hr
      have hmem : obAt h v ∈ h.objs := List.mem_of_getElem? ho
      obtain ⟨hl1, hl2, hl3, hl4, hl5, hl6⟩ := kind_len (ob_kind (may_all hm _ hmem))
      have hrv : refV h.objs.length v = (i : Int) := by unfold refV; rw [if_pos hr, hv]
      have E1 : Hid (plE h v kind k = if (obAt h v).kind ≠ kind then 33 else if k < 0 ∨ szO kind (obAt h v) ≤ k then 32 else 0) := by
        show _ = _
        unfold plE; rw [if_neg (by rw [hm]; decide), if_neg (by rw [hr]; decide)]
      have HV := hid hv
      obtain ⟨b, off, rfl, hlt, hc⟩ := HS.out (by omega)
      obtain ⟨S, d, hob, hin, hsd⟩ := hc i _ ho
      obtain ⟨o, hoo⟩ : ∃ o, o = obAt h v := ⟨_, rfl⟩
      have HOO := hid hoo
      rw [← hoo] at hl1 hl2 hl3 hl4 hl5 hl6 hob
      have HOB := hid hob
      have HL := hid (And.intro hl3 hl4)
      clear hc hin hsd hob hoo hmem ho hv hl3 hl4
      go_enter Tryz.func155, Tryz.ntmps155
      go_wp2_with fail
      refine (may_any h (some ⟨b, off, none⟩) c _ (HS.out.below HB0.out) HF.out).mono ?_
      rintro e w1 ⟨rfl, hb1⟩
      have HX1 := hid (HX.out.later hb1)
      obtain ⟨x0, x1, x2⟩ := HX1.out
      have HB1 := hid (HB0.out.trans (hb1.mono (by simp)))
      clear hb1
      go_wp2_with fail
      refine (find_any h _ (some ⟨b, off, none⟩) c _).mono ?_
      rintro e w2 ⟨rfl, hb2⟩
      have HB2 := hid (HB1.out.trans (hb2.mono HB1.out.size))
      clear x0 x1 x2
      obtain ⟨x0, x1, x2⟩ := HX1.out.later hb2
      obtain ⟨c0, c1, c2, c3, c4, c5⟩ := HOB.out.below hlt HB2.out
      clear hb2
      by_cases gk : o.kind = kind
      · have gk' : (o.kind != kind) = false := by simp [gk]
        have GK := hid gk
        clear gk
        by_cases g0 : k < 0
        · go_wp2_with fail
          go_ret2
          have e1 : plE h v kind k = 32 := by rw [E1.out, ← HOO.out, if_neg (by simp [GK.out]), if_pos (.inl g0)]
          exact ⟨by rw [show plV h v kind k = 0 by unfold plV; rw [e1]; rfl, e1]; rfl, HB2.out.trans ((below_alloc _ _).mono HB2.out.size)⟩
        · have g0' : 0 ≤ k := by omega
          clear g0
          have hsz : szO kind o = (o.slots.length : Int) + (o.text.size : Int) := by
            unfold szO
            rcases HKK.out with e | e
            · have := HL.out.1 (by rw [GK.out, e])
              rw [e, if_neg (by decide)]; omega
            · have := HL.out.2 (by rw [GK.out, e])
              rw [e, if_pos rfl]; omega
          have HSZ := hid hsz
          clear hsz
          by_cases g1 : (o.slots.length : Int) + (o.text.size : Int) ≤ k
          · go_wp2_with fail
            go_ret2
            have e1 : plE h v kind k = 32 := by rw [E1.out, ← HOO.out, if_neg (by simp [GK.out]), if_pos (.inr (by rw [HSZ.out]; exact g1))]
            exact ⟨by rw [show plV h v kind k = 0 by unfold plV; rw [e1]; rfl, e1]; rfl, HB2.out.trans ((below_alloc _ _).mono HB2.out.size)⟩
          · have g1' : k < (o.slots.length : Int) + (o.text.size : Int) := by omega
            clear g1
            go_wp2_with fail
            go_ret2
            have e1 : plE h v kind k = 0 := by rw [E1.out, ← HOO.out, if_neg (by simp [GK.out]), if_neg (by rw [HSZ.out]; omega)]
            exact ⟨by rw [show plV h v kind k = i by unfold plV; rw [if_pos e1, HV.out], e1]; rfl, HB2.out.trans ((below_alloc _ _).mono HB2.out.size)⟩
      · have gk' : (o.kind != kind) = true := by simp [gk]
        have GK := hid gk
        clear gk
        go_wp2_with fail
        go_ret2
        have e1 : plE h v kind k = 33 := by rw [E1.out, ← HOO.out, if_pos GK.out]
        exact ⟨by rw [show plV h v kind k = 0 by unfold plV; rw [e1]; rfl, e1]; rfl, HB2.out.trans ((below_alloc _ _).mono HB2.out.size)⟩
end Go.Proofs.YtkpfmbdkfgeboaaGreat
