/- CrcTurns walked: whatever two sums and text, it answers true. -/
import Derived.Test.YtjpibkcbgogfoabQZ
namespace Go.Proofs.Ytjpibkcbgogfoab
open Go.RowKit
set_option maxRecDepth 100000
set_option maxHeartbeats 1500000 in
theorem turns7_any (a b : Int) (s : ByteArray) (w : World) (hl : s.size ≤ 9223372036854775807) : Calls Try.prog 6 #[.int .i64 a, .int .i64 b, .string s] w fun e w' => e = .returned (.bool true) ∧ Below w.heap.size w w' := by
  have HB0 := hid (Below.refl w.heap.size w)
  by_cases q : (500 : Int) < s.size
  · go_enter Try.func6, Try.ntmps6
    go_wp2_with fail
    refine (fixed7_any _).mono ?_
    rintro e w1 ⟨rfl, hb⟩
    have HB1 := hid (HB0.out.trans (hb.mono HB0.out.size))
    clear hb
    go_wp2_with fail
    refine (fixed7_any _).mono ?_
    rintro e w2 ⟨rfl, hb⟩
    have HB2 := hid (HB1.out.trans (hb.mono HB1.out.size))
    clear hb
    go_wp2_with fail
    go_ret
    exact ⟨rfl, HB2.out⟩
  · cases ga : suB a
    · go_enter Try.func6, Try.ntmps6
      go_wp2_with fail
      refine (fixed7_any _).mono ?_
      rintro e w1 ⟨rfl, hb⟩
      have HB1 := hid (HB0.out.trans (hb.mono HB0.out.size))
      clear hb
      go_wp2_with fail
      refine (rmay_b a _).mono ?_
      rintro e w2 ⟨rfl, hb⟩
      rw [ga]
      have HB2 := hid (HB1.out.trans (hb.mono HB1.out.size))
      clear hb
      go_wp2_with fail
      refine (fixed7_any _).mono ?_
      rintro e w3 ⟨rfl, hb⟩
      have HB3 := hid (HB2.out.trans (hb.mono HB2.out.size))
      clear hb
      go_wp2_with fail
      go_ret
      exact ⟨rfl, HB3.out⟩
    · cases gb : suB b
      · go_enter Try.func6, Try.ntmps6
        go_wp2_with fail
        refine (fixed7_any _).mono ?_
        rintro e w1 ⟨rfl, hb⟩
        have HB1 := hid (HB0.out.trans (hb.mono HB0.out.size))
        clear hb
        go_wp2_with fail
        refine (rmay_b a _).mono ?_
        rintro e w2 ⟨rfl, hb⟩
        rw [ga]
        have HB2 := hid (HB1.out.trans (hb.mono HB1.out.size))
        clear hb
        go_wp2_with fail
        refine (rmay_b b _).mono ?_
        rintro e w3 ⟨rfl, hb⟩
        rw [gb]
        have HB3 := hid (HB2.out.trans (hb.mono HB2.out.size))
        clear hb
        go_wp2_with fail
        refine (fixed7_any _).mono ?_
        rintro e w4 ⟨rfl, hb⟩
        have HB4 := hid (HB3.out.trans (hb.mono HB3.out.size))
        clear hb
        go_wp2_with fail
        go_ret
        exact ⟨rfl, HB4.out⟩
      · obtain ⟨ha0, ha1⟩ := suB_iff.1 ga
        obtain ⟨hb0, hb1⟩ := suB_iff.1 gb
        obtain ⟨m, rfl⟩ : ∃ m : Nat, a = m := ⟨a.toNat, by omega⟩
        obtain ⟨n, rfl⟩ : ∃ n : Nat, b = n := ⟨b.toNat, by omega⟩
        have hm : m < 4294967296 := by omega
        have hn : n < 4294967296 := by omega
        have HA := hid ga
        have HBB := hid gb
        have HM := hid hm
        have HN := hid hn
        have HLT := hid (byL_lt s)
        obtain ⟨va, hva⟩ : ∃ x, x = crM m (byL s) := ⟨_, rfl⟩
        obtain ⟨vb, hvb⟩ : ∃ x, x = crM n (byL s) := ⟨_, rfl⟩
        have HVA := hid hva
        have HVB := hid hvb
        have EA : Hid (moI (m : Int) s = (va : Int)) := by show _ = _; rw [moI_yes hm, hva]
        have EB : Hid (moI (n : Int) s = (vb : Int)) := by show _ = _; rw [moI_yes hn, hvb]
        have hval : va < 4294967296 := by rw [hva]; exact crM_lt (byL_lt s)
        have SV : Hid (suB (va : Int) = true) := suB_iff.2 ⟨by omega, by omega⟩
        clear ga gb ha0 ha1 hb0 hb1 hm hn hva hvb
        go_enter Try.func6, Try.ntmps6
        go_wp2_with fail
        refine (fixed7_any _).mono ?_
        rintro e w1 ⟨rfl, hb⟩
        have HB1 := hid (HB0.out.trans (hb.mono HB0.out.size))
        clear hb
        go_wp2_with fail
        refine (rmay_b m _).mono ?_
        rintro e w2 ⟨rfl, hb⟩
        rw [HA.out]
        have HB2 := hid (HB1.out.trans (hb.mono HB1.out.size))
        clear hb
        go_wp2_with fail
        refine (rmay_b n _).mono ?_
        rintro e w3 ⟨rfl, hb⟩
        rw [HBB.out]
        have HB3 := hid (HB2.out.trans (hb.mono HB2.out.size))
        clear hb
        go_wp2_with fail
        go_loopw [8, 7] (fun i x wr => ∃ k : Nat, k ≤ s.size ∧ i = .int .i64 k ∧ x = .int .i64 ((crM m ((byL s).take k) : Nat) : Int) ∧ Below w.heap.size w wr) (fun i _ _ => s.size - (intOf i).toNat)
        case atStart => exact ⟨0, by omega, rfl, by rw [List.take_zero, crM_nil HM.out], HB3.out⟩
        case round =>
          obtain ⟨k, hk, rfl, rfl, hbw⟩ := hrel
          have HW := hid hbw
          clear hbw
          by_cases hlt : k < s.size
          · have hltI : (k : Int) < s.size := by omega
            have hw1 : wrap64 ((k : Int) + 1) = (k : Int) + 1 := by unfold wrap64; omega
            have h1 : (0 : Int) ≤ (k : Int) + 1 := by omega
            have h2 : (k : Int) + 1 ≤ s.size := by omega
            have hs : (s.extract k (k + 1)).size ≤ 9223372036854775807 := by rw [ByteArray.size_extract]; omega
            obtain ⟨c, hc⟩ : ∃ c, c = crM m ((byL s).take k) := ⟨_, rfl⟩
            have hcl : c < 4294967296 := by rw [hc]; exact crM_lt (take_lt HLT.out k)
            have HE : Hid (moI (c : Int) (s.extract k (k + 1)) = ((crM m ((byL s).take (k + 1)) : Nat) : Int)) := by
              show _ = _
              rw [moI_yes hcl, hc, byL_one s k hlt, crM_append (take_lt HLT.out k), byL_step s k hlt]
            rw [← hc]
            clear hc
            go_wp2_with fail
            refine (more_any c (s.extract k (k + 1)) hs _).mono ?_
            rintro e w' ⟨rfl, hb⟩
            have HB' := hid (HW.out.trans (hb.mono HW.out.size))
            rw [HE.out]
            clear hb
            go_wp2_with fail
            go_roundw
            case rel => exact ⟨k + 1, by omega, by go_num, rfl, HB'.out⟩
            case measure => simp [intOf]; omega
          · obtain rfl : k = s.size := by omega
            have hz : (byL s).take s.size = byL s := List.take_of_length_le (by rw [byL_len]; omega)
            rw [hz, ← HVA.out]
            clear hz
            rename World => w3
            have HB3 := HW
            by_cases hab : m = n
            · subst hab
              obtain rfl : va = vb := HVA.out.trans HVB.out.symm
              go_wp2_with fail
              refine (more_any m s hl _).mono ?_
              rintro e w4 ⟨rfl, hb⟩
              rw [EA.out]
              have HB4 := hid (HB3.out.trans (hb.mono HB3.out.size))
              clear hb
              go_wp2_with fail
              refine (more_any m s hl _).mono ?_
              rintro e w5 ⟨rfl, hb⟩
              rw [EA.out]
              have HB5 := hid (HB4.out.trans (hb.mono HB4.out.size))
              clear hb
              go_wp2_with fail
              refine (more_any m s hl _).mono ?_
              rintro e w6 ⟨rfl, hb⟩
              rw [EA.out]
              have HB6 := hid (HB5.out.trans (hb.mono HB5.out.size))
              clear hb
              go_wp2_with fail
              refine (bytes_any7 m _).mono ?_
              rintro e w7 ⟨rfl, hb⟩
              have HB7 := hid (HB6.out.trans (hb.mono HB6.out.size))
              clear hb
              go_wp2_with fail
              refine (bytes_any7 m _).mono ?_
              rintro e w8 ⟨rfl, hb⟩
              have HB8 := hid (HB7.out.trans (hb.mono HB7.out.size))
              clear hb
              go_wp2_with fail
              refine (rmay_b va _).mono ?_
              rintro e w9 ⟨rfl, hb⟩
              rw [SV.out]
              have HB9 := hid (HB8.out.trans (hb.mono HB8.out.size))
              clear hb
              go_wp2_with fail
              go_ret
              exact ⟨rfl, HB9.out⟩
            · have hv : ¬ va = vb := fun e => hab (crM_inj HM.out HN.out HLT.out (by rw [← HVA.out, ← HVB.out, e]))
              have hs : ¬ (b4B m).toList = (b4B n).toList := fun e => hab (b4_inj HM.out HN.out e)
              obtain ⟨sa, hsa⟩ : ∃ x, x = b4B m := ⟨_, rfl⟩
              obtain ⟨sb, hsb⟩ : ∃ x, x = b4B n := ⟨_, rfl⟩
              have HSA : Hid (boI (m : Int) = sa) := by show _ = _; rw [hsa, boI_yes HM.out]
              have HSB : Hid (boI (n : Int) = sb) := by show _ = _; rw [hsb, boI_yes HN.out]
              rw [← hsa, ← hsb] at hs
              have g1 : ((m : Int) == (n : Int)) = false := beq_eq_false_iff_ne.2 (by omega)
              have g2 : ((va : Int) == (vb : Int)) = false := beq_eq_false_iff_ne.2 (by omega)
              have g3 : (sa.toList == sb.toList) = false := by simpa using hs
              clear hsa hsb hv hs hab
              go_wp2_with fail
              refine (more_any m s hl _).mono ?_
              rintro e w4 ⟨rfl, hb⟩
              rw [EA.out]
              have HB4 := hid (HB3.out.trans (hb.mono HB3.out.size))
              clear hb
              go_wp2_with fail
              refine (more_any m s hl _).mono ?_
              rintro e w5 ⟨rfl, hb⟩
              rw [EA.out]
              have HB5 := hid (HB4.out.trans (hb.mono HB4.out.size))
              clear hb
              go_wp2_with fail
              refine (more_any n s hl _).mono ?_
              rintro e w6 ⟨rfl, hb⟩
              rw [EB.out]
              have HB6 := hid (HB5.out.trans (hb.mono HB5.out.size))
              clear hb
              go_wp2_with fail
              refine (bytes_any7 m _).mono ?_
              rintro e w7 ⟨rfl, hb⟩
              rw [HSA.out]
              have HB7 := hid (HB6.out.trans (hb.mono HB6.out.size))
              clear hb
              go_wp2_with fail
              refine (bytes_any7 n _).mono ?_
              rintro e w8 ⟨rfl, hb⟩
              rw [HSB.out]
              have HB8 := hid (HB7.out.trans (hb.mono HB7.out.size))
              clear hb
              go_wp2_with fail
              refine (rmay_b va _).mono ?_
              rintro e w9 ⟨rfl, hb⟩
              rw [SV.out]
              have HB9 := hid (HB8.out.trans (hb.mono HB8.out.size))
              clear hb
              go_wp2_with fail
              go_ret
              exact ⟨rfl, HB9.out⟩
end Go.Proofs.Ytjpibkcbgogfoab
