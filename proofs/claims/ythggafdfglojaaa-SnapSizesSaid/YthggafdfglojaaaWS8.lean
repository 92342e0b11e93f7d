/- SnapSizes walked: whatever heap and roots, it answers true. -/
import Derived.Test.YthggafdfglojaaaKI8
namespace Go.Proofs.Ythggafdfglojaaa
open Go.RowKit
set_option maxRecDepth 100000
theorem wr_nat (x : Int) (m : Nat) (e : x = m) (h : m < 4611686018427387904) : IntKind.i64.wrap x = m ∧ wrap64 x = m := by
  rw [e]; exact ⟨IntWalk.i64_in _ ⟨by omega, by omega⟩, wrap64_fit (by omega) (by omega)⟩
theorem size_bd {m k a b f4 z : Nat} (h : f4 = m + (16 + 4 * a + b)) (h2 : a ≤ 64 ∧ b ≤ 64) (h3 : m ≤ 300 + 500 * k) (hz : z ≤ 4) : f4 + z ≤ 300 + 500 * (k + 1) := by omega
theorem size_next {s s2 e m q a b f4 z : Nat} (h1 : s2 = s + e) (h2 : e = 16 + 4 * a + b + z) (h : f4 = m + (16 + 4 * a + b)) (hm : m = 23 + 4 * q + s) : f4 + z = 23 + 4 * q + s2 := by omega
theorem size_nums (a b m : Nat) (ha : a ≤ 64) (hb : b ≤ 64) (hm : m ≤ 1000000) : ∃ f f2 f3 f4 : Nat,
    (IntKind.i64.wrap (4 * (a : Int)) = f ∧ wrap64 (4 * (a : Int)) = f) ∧ (IntKind.i64.wrap (16 + (f : Int)) = f2 ∧ wrap64 (16 + (f : Int)) = f2) ∧ (IntKind.i64.wrap ((f2 : Int) + (b : Int)) = f3 ∧ wrap64 ((f2 : Int) + (b : Int)) = f3) ∧
    (IntKind.i64.wrap ((m : Int) + (f3 : Int)) = f4 ∧ wrap64 ((m : Int) + (f3 : Int)) = f4) ∧ (IntKind.i64.wrap ((f4 : Int) + 4) = ((f4 + 4 : Nat) : Int) ∧ wrap64 ((f4 : Int) + 4) = ((f4 + 4 : Nat) : Int)) ∧ Hid (f4 = m + (16 + 4 * a + b)) :=
  ⟨4 * a, 16 + 4 * a, 16 + 4 * a + b, m + (16 + 4 * a + b), wr_nat _ _ (by omega) (by omega), wr_nat _ _ (by omega) (by omega), wr_nat _ _ (by omega) (by omega), wr_nat _ _ (by omega) (by omega), wr_nat _ _ (by omega) (by omega), hid rfl⟩
set_option maxHeartbeats 3000000 in
theorem sizes8_any (h : Hp) (rs : List Int) (A : Option Addr) (c : Nat) (R : Option Addr) (d : Nat) (w : World) (hs : ObsR w A h.objs) (fit : h.Fit) (hr : IntsR w R rs) (hl : rs.length ≤ 9223372036854775807) :
    Calls Try.prog 12 #[.agg #[.slice A h.objs.length c, .int .i64 h.cap, .int .i64 h.last], .slice R rs.length d] w fun e w' => e = .returned (.bool true) ∧ Below w.heap.size w w' := by
  have HB0 := hid (below_alloc w (.cells #[Value.slice A h.objs.length c, Value.int .i64 h.cap, Value.int .i64 h.last] 24))
  have X0 := hid (Lies.new w 24 #[Value.slice A h.objs.length c, Value.int .i64 h.cap, Value.int .i64 h.last])
  have O0 := hid (hs.below HB0.out)
  have R0 := hid (hr.below HB0.out)
  have HF := hid fit
  have hfl := fit.1
  have HSO := hid hs
  have HRO := hid hr
  clear hs fit hr
  go_enter Try.func12, Try.ntmps12
  have x0 := X0.out.cell 0
  have x1 := X0.out.cell 1
  have x2 := X0.out.cell 2
  simp only [List.getElem?_toArray, List.getElem?_cons_zero, List.getElem?_cons_succ] at x0 x1 x2
  go_wp2_with fail
  refine (fixed8_any _).mono ?_
  rintro e w1 ⟨rfl, hb⟩
  have HB1 := hid (HB0.out.trans (hb.mono HB0.out.size))
  have X1 := hid (X0.out.later hb)
  have O1 := hid (O0.out.below hb)
  have R1 := hid (R0.out.below hb)
  clear x0 x1 x2
  clear hb
  have x0 := X1.out.cell 0
  have x1 := X1.out.cell 1
  have x2 := X1.out.cell 2
  simp only [List.getElem?_toArray, List.getElem?_cons_zero, List.getElem?_cons_succ] at x0 x1 x2
  go_wp2_with fail
  refine (small_ok h A c _ O1.out HF.out).mono ?_
  rintro e w2 ⟨sm, rfl, hb⟩
  have HB2 := hid (HB1.out.trans (hb.mono HB1.out.size))
  have X2 := hid (X1.out.later hb)
  have O2 := hid (O1.out.below hb)
  have R2 := hid (R1.out.below hb)
  clear x0 x1 x2
  clear hb
  have x0 := X2.out.cell 0
  have x1 := X2.out.cell 1
  have x2 := X2.out.cell 2
  simp only [List.getElem?_toArray, List.getElem?_cons_zero, List.getElem?_cons_succ] at x0 x1 x2
  cases sm
  · go_wp2_with fail
    refine (fixed8_any _).mono ?_
    rintro e w3 ⟨rfl, hb⟩
    have HB3 := hid (HB2.out.trans (hb.mono HB2.out.size))
    have X3 := hid (X2.out.later hb)
    have O3 := hid (O2.out.below hb)
    have R3 := hid (R2.out.below hb)
    clear x0 x1 x2
    clear hb
    have x0 := X3.out.cell 0
    have x1 := X3.out.cell 1
    have x2 := X3.out.cell 2
    simp only [List.getElem?_toArray, List.getElem?_cons_zero, List.getElem?_cons_succ] at x0 x1 x2
    go_wp2_with fail
    go_ret
    exact ⟨rfl, HB3.out⟩
  · by_cases q1 : 64 < rs.length
    · go_wp2_with fail
      refine (fixed8_any _).mono ?_
      rintro e w3 ⟨rfl, hb⟩
      have HB3 := hid (HB2.out.trans (hb.mono HB2.out.size))
      have X3 := hid (X2.out.later hb)
      have O3 := hid (O2.out.below hb)
      have R3 := hid (R2.out.below hb)
      clear x0 x1 x2
      clear hb
      have x0 := X3.out.cell 0
      have x1 := X3.out.cell 1
      have x2 := X3.out.cell 2
      simp only [List.getElem?_toArray, List.getElem?_cons_zero, List.getElem?_cons_succ] at x0 x1 x2
      go_wp2_with fail
      go_ret
      exact ⟨rfl, HB3.out⟩
    · go_wp2_with fail
      refine (rmay_any8 h rs A R c d _ O2.out HF.out R2.out hl).mono ?_
      rintro e w3 ⟨rfl, hb⟩
      have HB3 := hid (HB2.out.trans (hb.mono HB2.out.size))
      have X3 := hid (X2.out.later hb)
      have O3 := hid (O2.out.below hb)
      have R3 := hid (R2.out.below hb)
      clear x0 x1 x2
      clear hb
      have x0 := X3.out.cell 0
      have x1 := X3.out.cell 1
      have x2 := X3.out.cell 2
      simp only [List.getElem?_toArray, List.getElem?_cons_zero, List.getElem?_cons_succ] at x0 x1 x2
      cases hm : mayR h rs
      · go_wp2_with fail
        refine (fixed8_any _).mono ?_
        rintro e w4 ⟨rfl, hb⟩
        have HB4 := hid (HB3.out.trans (hb.mono HB3.out.size))
        have X4 := hid (X3.out.later hb)
        have O4 := hid (O3.out.below hb)
        have R4 := hid (R3.out.below hb)
        clear x0 x1 x2
        clear hb
        have x0 := X4.out.cell 0
        have x1 := X4.out.cell 1
        have x2 := X4.out.cell 2
        simp only [List.getElem?_toArray, List.getElem?_cons_zero, List.getElem?_cons_succ] at x0 x1 x2
        go_wp2_with fail
        go_ret
        exact ⟨rfl, HB4.out⟩
      · obtain ⟨-, -, hn, ho, -, hrn⟩ := may_parts hm
        have HOB := hid ho
        have HM := hid hm
        have HSZ := hid (enc_size hm)
        clear ho hm
        obtain ⟨p1, p2⟩ := wr_nat (4 * (rs.length : Int)) (4 * rs.length) (by omega) (by omega)
        obtain ⟨p3, p4⟩ := wr_nat (23 + 4 * (rs.length : Int)) (23 + 4 * rs.length) (by omega) (by omega)
        obtain ⟨p5, p6⟩ := wr_nat (23 + ((4 * rs.length : Nat) : Int)) (23 + 4 * rs.length) (by omega) (by omega)
        obtain ⟨m0, hm0⟩ : ∃ m, m = 23 + 4 * rs.length := ⟨_, rfl⟩
        have HM0 := hid hm0
        rw [← hm0] at p3 p4 p5 p6
        clear hm0
        go_wp2_with fail
        clear p1 p2 p3 p4 p5 p6
        go_loopw [6, 5] (fun i s wr => ∃ (k m : Nat), k ≤ h.objs.length ∧ i = .int .i64 k ∧ s = .int .i64 m ∧ Hid (m = 23 + 4 * rs.length + szS (h.objs.take k)) ∧ m ≤ 300 + 500 * k ∧ Below w.heap.size w wr ∧ Lies wr w.heap.size 24 #[Value.slice A h.objs.length c, Value.int .i64 h.cap, Value.int .i64 h.last]) (fun i _ _ => h.objs.length - (intOf i).toNat)
        case atStart => exact ⟨0, m0, Nat.zero_le _, rfl, rfl, hid (by rw [HM0.out]; rfl), by have := HM0.out; omega, HB3.out, X3.out⟩
        case round =>
          obtain ⟨k, m, hk, rfl, rfl, HMM, hmb, hbw, hx⟩ := hrel
          have HW := hid hbw
          have HX := hid hx
          have x0 := hx.cell 0
          have x1 := hx.cell 1
          have x2 := hx.cell 2
          simp only [List.getElem?_toArray, List.getElem?_cons_zero, List.getElem?_cons_succ] at x0 x1 x2
          clear hbw hx
          by_cases hlt : k < h.objs.length
          · obtain ⟨bs, os, rfl, hbs, hcs⟩ := HSO.out (by omega)
            obtain ⟨S, e, hob, -, -⟩ := hcs k _ (List.getElem?_eq_getElem hlt)
            obtain ⟨c0, c1, c2, c3, c4, c5⟩ := hob.below hbs HW.out
            have HST := hid (szS_step h.objs k hlt)
            have hobk := HOB.out _ (List.getElem_mem hlt)
            obtain ⟨o, hoo⟩ : ∃ o, o = h.objs[k]'hlt := ⟨_, rfl⟩
            rw [← hoo] at c0 c1 c2 c3 c4 c5 HST hobk
            obtain ⟨hk1, hk2, -, -, -, -⟩ := kind_len (ob_kind hobk)
            have HAL := hid (below_alloc wr (.cells #[.int .i64 o.cls, .int .i64 o.kind, .slice S o.slots.length e, .string o.text, .int .i64 o.bits, .int .i64 o.hash] 46))
            obtain ⟨a, ha⟩ : ∃ a, a = o.slots.length := ⟨_, rfl⟩
            obtain ⟨b, hb⟩ : ∃ b, b = o.text.size := ⟨_, rfl⟩
            have ha64 : a ≤ 64 := by omega
            have hb64 : b ≤ 64 := by omega
            have HSE : Hid (szE o = 16 + 4 * a + b + (if o.kind = 2 then 4 else 0)) := by show _ = _; rw [ha, hb]; rfl
            rw [← ha] at c2 HAL
            have hbI : o.text.size = b := hb.symm
            obtain ⟨f, f2, f3, f4, ⟨p1, p2⟩, ⟨p3, p4⟩, ⟨p5, p6⟩, ⟨p7, p8⟩, ⟨p9, p10⟩, HF4⟩ := size_nums a b m ha64 hb64 (by omega)
            have H64 : Hid (a ≤ 64 ∧ b ≤ 64) := ⟨ha64, hb64⟩
            clear hcs hob hoo hobk hk1 hk2 ha hb ha64 hb64
            by_cases hkd : o.kind = 2
            · rw [hkd] at c1 HAL
              go_wp2_with fail
              go_roundw
              case rel =>
                exact ⟨k + 1, f4 + 4, hlt, by go_num, by go_num, hid (size_next HST.out (HSE.out.trans (by rw [if_pos hkd])) HF4.out HMM.out), size_bd HF4.out H64.out hmb (by decide), HW.out.trans (HAL.out.mono HW.out.size), HX.out.later HAL.out⟩
              case measure => simp only [intOf]; omega
            · go_wp2_with fail
              go_roundw
              case rel =>
                exact ⟨k + 1, f4, hlt, by go_num, rfl, hid (size_next (z := 0) HST.out (HSE.out.trans (by rw [if_neg hkd])) HF4.out HMM.out), size_bd (z := 0) HF4.out H64.out hmb (by decide), HW.out.trans (HAL.out.mono HW.out.size), HX.out.later HAL.out⟩
              case measure => simp only [intOf]; omega
          · obtain rfl : k = h.objs.length := by omega
            obtain ⟨E, hE⟩ : ∃ E, E = encE h rs := ⟨_, rfl⟩
            have HE := hid hE
            have hEl : E.length = m := by rw [hE, HSZ.out, HMM.out, List.take_length]
            have hs := str_size E
            have OW := hid (HSO.out.below HW.out)
            have RW := hid (HRO.out.below HW.out)
            clear hE
            go_wp2_with fail
            refine (enc_any8 h rs A R c d _ OW.out HF.out RW.out hl).mono ?_
            rintro e w9 ⟨rfl, hb⟩
            rw [← HE.out]
            have HB9 := hid (HW.out.trans (hb.mono HW.out.size))
            clear hb
            go_wp2_with fail
            go_ret
            exact ⟨by simp, HB9.out⟩
end Go.Proofs.Ythggafdfglojaaa
