/- The law's end walked. -/
import Derived.Test.YtelljlmjhnjpiaaVE
import Derived.Test.YtelljlmjhnjpiaaVT
namespace Go.Proofs.Ytelljlmjhnjpiaa
open Go.RowKit
set_option maxRecDepth 100000
theorem below_dr (w : World) (n : Nat) : Below w.heap.size w (w.drewN n) := ⟨rfl, rfl, rfl, Nat.le_refl _, fun _ _ => rfl⟩
theorem obc_ne {w : World} {g j b o : Nat} {u v : Value} (hne : b ≠ g) (h : w.cell? ⟨b, o, none⟩ = some v) : (w.setCell ⟨g, j, none⟩ u).cell? ⟨b, o, none⟩ = some v :=
  (World.cell?_setCell_other _ _ _ _ (by intro e; injection e with e1; exact hne e1.symm)).trans h
set_option maxHeartbeats 1500000 in
theorem end_any (h : Hp) (v : Int) (way : List Int) (A B : Option Addr) (c d : Nat) (w : World) (hs : ObsR w A h.objs) (hm : mayB h = true) (hw : IntsR w B way) (hl : way.length ≤ 9223372036854775807) :
    Calls Try.prog 45 #[.agg #[.slice A h.objs.length c, .int .i64 h.cap, .int .i64 h.last], .int .i64 v, .slice B way.length d] w fun e w' => e = .returned (.tuple #[.int .i64 (endI h v way), .bool (endB h v way)]) ∧ Below w.heap.size w w' := by
  have HB0 := hid (below_alloc w (.cells #[Value.slice A h.objs.length c, Value.int .i64 h.cap, Value.int .i64 h.last] 24))
  have X0 := hid (Lies.new w 24 #[Value.slice A h.objs.length c, Value.int .i64 h.cap, Value.int .i64 h.last])
  have HS := hid hs
  have HW := hid hw
  have HM := hid hm
  have hle := may_len hm
  clear hs hw hm
  go_enter Try.func45, Try.ntmps45
  go_wp2_with fail
  go_loopw [8, 1] (fun i s wr => ∃ (j : Nat) (z : Int), j ≤ way.length ∧ i = .int .i64 j ∧ s = .int .i64 z ∧ endV h v way = endV h z (way.drop j) ∧ Lies wr w.heap.size 24 #[Value.slice A h.objs.length c, Value.int .i64 h.cap, Value.int .i64 h.last] ∧ Below w.heap.size w wr) (fun i _ _ => way.length - (intOf i).toNat)
  case atStart => exact ⟨0, v, Nat.zero_le _, rfl, rfl, rfl, X0.out, HB0.out⟩
  case round =>
    obtain ⟨j, z, hj, rfl, rfl, hev, hx, hbw⟩ := hrel
    rename World => wo
    have HX := hid hx
    have HBW := hid hbw
    have HE := hid hev
    have x0 := hx.cell 0
    have x1 := hx.cell 1
    have x2 := hx.cell 2
    simp only [List.getElem?_toArray, List.getElem?_cons_zero, List.getElem?_cons_succ] at x0 x1 x2
    clear hx hbw hev
    by_cases hlt : j < way.length
    · have HDC := hid (drop_cons hlt)
      obtain ⟨bw, ow, rfl, hbw, hcw⟩ := HW.out (by omega)
      have wc := hcw j _ (List.getElem?_eq_getElem hlt)
      obtain ⟨x, hxw⟩ : ∃ x, x = way[j] := ⟨_, rfl⟩
      rw [← hxw] at wc HDC
      clear hcw hxw
      cases hr : refB h.objs.length z
      · have hri : refI h.objs.length z = -1 := refI_no hr
        have hen : endV h v way = none := by rw [HE.out, HDC.out, endV_no hr]
        have e1 : endI h v way = 0 := by unfold endI; rw [hen]; rfl
        have e2 : endB h v way = false := by unfold endB; rw [hen]; rfl
        have E1 := hid e1
        have E2 := hid e2
        clear hen e1 e2 hr
        go_wp2_with fail
        refine (rref_any h z A c _).mono ?_
        rintro e w1 ⟨rfl, hb⟩
        rw [hri]
        have HB1 := hid (HBW.out.trans (hb.mono HBW.out.size))
        clear hb
        go_wp2_with fail
        go_ret2
        refine ⟨?_, HB1.out⟩
        rw [E1.out, E2.out]; rfl
      · obtain ⟨q, hq, hvq, hoq⟩ := obAt_get hr
        have hri : refI h.objs.length z = (q : Int) := by rw [refI_nonneg hr, hvq]
        have hok := may_all HM.out _ (List.mem_of_getElem? hoq)
        have hol := (kind_len (ob_kind hok)).1
        obtain ⟨b, off, rfl, hb0, hc⟩ := HS.out (by omega)
        obtain ⟨S, ds, hob, hin, -, -⟩ := hc q _ hoq
        have HRR := hid hr
        obtain ⟨o, ho⟩ : ∃ o, o = obAt h z := ⟨_, rfl⟩
        have HOO := hid ho
        rw [← ho] at hob hin hol
        have HOB := hid hob
        have HIN := hid hin
        clear hc hob hin hr hvq hoq hok ho
        go_wp2_with fail
        refine (rref_any h z (some ⟨b, off, none⟩) c _).mono ?_
        rintro e w1 ⟨rfl, hb⟩
        rw [hri]
        have HB1 := hid (HBW.out.trans (hb.mono HBW.out.size))
        have X1 := hid (HX.out.later hb)
        clear hb x0 x1 x2
        have x0 := X1.out.cell 0
        simp only [List.getElem?_toArray, List.getElem?_cons_zero] at x0
        obtain ⟨a0, a1, a2, a3, a4, a5⟩ := HOB.out.below hb0 HB1.out
        go_upto_region 8 with fail
        obtain ⟨W, hW⟩ : ∃ W, W = w1.alloc (.cells #[.int .i64 o.cls, .int .i64 o.kind, .slice S o.slots.length ds, .string o.text, .int .i64 o.bits, .int .i64 o.hash] 46) := ⟨_, rfl⟩
        have hBW : Below w1.heap.size w1 W := by rw [hW]; exact below_alloc _ _
        have hLW : Lies W w1.heap.size 46 #[.int .i64 o.cls, .int .i64 o.kind, .slice S o.slots.length ds, .string o.text, .int .i64 o.bits, .int .i64 o.hash] := by rw [hW]; exact Lies.new _ _ _
        rw [← hW]
        have HBB := hid (then_b HB1.out hBW)
        have X2 := hid (X1.out.later hBW)
        have wc2 := (HBB.out.cell (p := ⟨bw, ow + j, none⟩) hbw).trans wc
        have e0 := hLW.cell 0
        have e2 := hLW.cell 2
        simp only [List.getElem?_toArray, List.getElem?_cons_zero, List.getElem?_cons_succ] at e0 e2
        clear hW hBW hLW x0 a0 a1 a2 a3 a4 a5 wc
        by_cases hx1 : x = -1
        · have hst : endV h v way = endV h o.cls (way.drop (j + 1)) := by rw [HE.out, HDC.out, endV_cls HRR.out hx1, HOO.out]
          have HST := hid hst
          subst hx1
          clear hst
          go_wp2_with fail
          go_roundw
          case rel => exact ⟨j + 1, o.cls, by omega, by go_num, rfl, HST.out, X2.out, HBB.out⟩
          case measure => simp [intOf]; omega
        · have hxb : (x == -1) = false := by simpa using hx1
          by_cases hx0 : x < 0
          · have hen : endV h v way = none := by rw [HE.out, HDC.out, endV_none HRR.out hx1 (.inl hx0)]
            have q1 : endI h v way = 0 := by unfold endI; rw [hen]; rfl
            have q2 : endB h v way = false := by unfold endB; rw [hen]; rfl
            have hd : decide (x < 0) = true := decide_eq_true hx0
            have E1 := hid q1
            have E2 := hid q2
            clear hen q1 q2 hx1
            go_wp2_with fail
            go_quiet (fail)
            go_wp2_with fail
            go_ret2
            exact ⟨by rw [E1.out, E2.out]; rfl, then_b HBB.out (below_dr _ _)⟩
          · have hd : decide (x < 0) = false := decide_eq_false hx0
            have hx0' : 0 ≤ x := by omega
            by_cases hxs : (o.slots.length : Int) ≤ x
            · have hen : endV h v way = none := by rw [HE.out, HDC.out, endV_none HRR.out hx1 (.inr (by rw [← HOO.out]; exact hxs))]
              have q1 : endI h v way = 0 := by unfold endI; rw [hen]; rfl
              have q2 : endB h v way = false := by unfold endB; rw [hen]; rfl
              have E1 := hid q1
              have E2 := hid q2
              clear hen q1 q2 hx1 hx0
              go_wp2_with fail
              go_quiet (fail)
              go_wp2_with fail
              go_ret2
              exact ⟨by rw [E1.out, E2.out]; rfl, then_b HBB.out (below_dr _ _)⟩
            · obtain ⟨p, rfl⟩ : ∃ p : Nat, x = p := ⟨x.toNat, by omega⟩
              have hps : p < o.slots.length := by omega
              have hst : endV h v way = endV h o.slots[p] (way.drop (j + 1)) := by
                rw [HE.out, HDC.out, endV_slot HRR.out hx0' (by rw [← HOO.out]; omega), ← HOO.out, Int.toNat_natCast, List.getD_eq_getElem?_getD, List.getElem?_eq_getElem hps]; rfl
              have HST := hid hst
              obtain ⟨bs, os, rfl, hbs, hcs⟩ := HIN.out (by omega)
              have sc := (HBB.out.cell (p := ⟨bs, os + p, none⟩) hbs).trans (hcs p _ (List.getElem?_eq_getElem hps))
              clear hst hcs hx1 hx0 hxs
              go_wp2_with fail
              go_quiet (fail)
              go_wp2_with fail
              go_quiet (fail)
              go_wp2_with fail
              go_roundw
              case rel => exact ⟨j + 1, o.slots[p], by omega, by go_num, rfl, HST.out, X2.out.later (below_dr _ _), then_b HBB.out (below_dr _ _)⟩
              case measure => simp [intOf]; omega
    · obtain rfl : j = way.length := by omega
      have hen : endV h v way = some z := by rw [HE.out, List.drop_length]; rfl
      have q1 : endI h v way = z := by unfold endI; rw [hen]; rfl
      have q2 : endB h v way = true := by unfold endB; rw [hen]; rfl
      have E1 := hid q1
      have E2 := hid q2
      clear hen q1 q2
      go_wp2_with fail
      go_ret2
      exact ⟨by rw [E1.out, E2.out]; rfl, HBW.out⟩
end Go.Proofs.Ytelljlmjhnjpiaa
