/- CodeSizes walked: whatever two lists of instructions, it answers true. -/
import Derived.Test.YtobelbaeaamkkaaDoorSQ11
import Derived.Test.YtobelbaeaamkkaaDoorSL11
namespace Go.Proofs.YtobelbaeaamkkaaDoor
open Go.RowKit
set_option maxRecDepth 100000
set_option maxHeartbeats 3000000 in
theorem sizes11_any (a b : List In) (A : Option Addr) (ca : Nat) (B : Option Addr) (cb : Nat) (w : World) (hs : InsR w A a) (hs2 : InsR w B b) (hv : Vr11 w) (hna : A = none → ca = 0) (hnb : B = none → cb = 0) (_fa : a.length ≤ 9223372036854775807) (_fb : b.length ≤ 9223372036854775807) :
    Calls Tryd.prog 7 #[.slice A a.length ca, .slice B b.length cb] w fun e w' => e = .returned (.bool true) ∧ Below w.heap.size w w' := by
  have HB0 := hid (Below.refl w.heap.size w)
  have I0 := hid hs
  have Z0 := hid hv
  clear hs hv
  have J0 := hid hs2
  have HNA := hid hna
  have HNB := hid hnb
  clear hs2 hna hnb
  go_enter Tryd.func7, Tryd.ntmps7
  go_wp2_with fail
  refine (fixed11_any _ Z0.out).mono ?_
  rintro e w1 ⟨rfl, hb⟩
  have HB1 := hid (HB0.out.trans (hb.mono HB0.out.size))
  have I1 := hid (I0.out.below hb)
  have J1 := hid (J0.out.below hb)
  have Z1 := hid (Z0.out.below hb)
  clear hb
  by_cases q1 : 16 < a.length
  · go_wp2_with fail
    refine (fixed11_any _ Z1.out).mono ?_
    rintro e w2 ⟨rfl, hb⟩
    have HB2 := hid (HB1.out.trans (hb.mono HB1.out.size))
    have I2 := hid (I1.out.below hb)
    have J2 := hid (J1.out.below hb)
    have Z2 := hid (Z1.out.below hb)
    clear hb
    go_wp2_with fail
    go_ret
    exact ⟨rfl, HB2.out⟩
  · by_cases q2 : 16 < b.length
    · go_wp2_with fail
      refine (fixed11_any _ Z1.out).mono ?_
      rintro e w2 ⟨rfl, hb⟩
      have HB2 := hid (HB1.out.trans (hb.mono HB1.out.size))
      have I2 := hid (I1.out.below hb)
      have J2 := hid (J1.out.below hb)
      have Z2 := hid (Z1.out.below hb)
      clear hb
      go_wp2_with fail
      go_ret
      exact ⟨rfl, HB2.out⟩
    · have hla : a.length ≤ 16 := by omega
      have hlb : b.length ≤ 16 := by omega
      go_wp2_with fail
      go_loopw [5] (fun i wr => ∃ j : Nat, j ≤ a.length ∧ i = .int .i64 j ∧ Hid (∀ x ∈ a.take j, may11 x = true) ∧ Hid (Below w.heap.size w wr) ∧ Hid (InsR wr A a) ∧ Hid (InsR wr B b) ∧ Hid (Vr11 wr)) (fun i _ => a.length + 1 - (intOf i).toNat)
      case atStart => exact ⟨0, by omega, rfl, fun x hx => (by cases hx), HB1, I1, J1, Z1⟩
      case round =>
        rename World => w20
        obtain ⟨j, hjl, rfl, HT, HB20, I20, J20, Z20⟩ := hrel
        have hjw : IntKind.i64.wrap ((j : Int) + 1) = (j : Int) + 1 := IntWalk.i64_in _ ⟨by omega, by omega⟩
        have hj0 : (0 : Int) ≤ (j : Int) := by omega
        by_cases hj : j < a.length
        · have hjI : (j : Int) < (a.length : Int) := by omega
          obtain ⟨bb, off, rfl, hlt, hc⟩ := I20.out (by omega)
          have ha := hc j _ (List.getElem?_eq_getElem hj)
          have HTK : Hid (a.take (j + 1) = a.take j ++ [a[j]'hj]) := by show _ = _; rw [List.take_succ_eq_append_getElem hj]
          obtain ⟨x, hx⟩ : ∃ x, x = a[j]'hj := ⟨_, rfl⟩
          rw [← hx] at ha HTK
          have g0 := ha.1
          have g1 := ha.2
          clear ha hx hc
          go_wp2_with fail
          refine (may_any11 x _).mono ?_
          rintro e w21 ⟨rfl, hb⟩
          have HB21 := hid (then_w HB20.out hb)
          have I21 := hid (I20.out.below hb)
          have J21 := hid (J20.out.below hb)
          have Z21 := hid (Z20.out.below hb)
          clear hb g0 g1
          cases hm : may11 x
          · go_wp2_with fail
            go_ret
            exact ⟨rfl, HB21.out⟩
          · have HT2 : Hid (∀ y ∈ a.take (j + 1), may11 y = true) := by
              show ∀ y ∈ _, _
              rw [HTK.out]
              intro y hy
              rcases List.mem_append.1 hy with hy | hy
              · exact HT.out y hy
              · rw [List.mem_singleton] at hy; rw [hy]; exact hm
            clear hm
            go_wp2_with fail
            go_roundw
            case rel => exact ⟨j + 1, by omega, by go_num, HT2, HB21, I21, J21, Z21⟩
            case measure => simp only [intOf]; omega
        · have hje : j = a.length := by omega
          have Ha : Hid (∀ x ∈ a, may11 x = true) := by
            have := HT.out
            rw [hje, List.take_length] at this
            exact this
          subst hje
          clear HT hjw hj0 hjl
          go_wp2_with fail
          go_loopw [6] (fun i wr => ∃ j : Nat, j ≤ b.length ∧ i = .int .i64 j ∧ Hid (∀ x ∈ b.take j, may11 x = true) ∧ Hid (Below w.heap.size w wr) ∧ Hid (InsR wr A a) ∧ Hid (InsR wr B b) ∧ Hid (Vr11 wr)) (fun i _ => b.length + 1 - (intOf i).toNat)
          case atStart => exact ⟨0, by omega, rfl, fun x hx => (by cases hx), HB20, I20, J20, Z20⟩
          case round =>
            rename World => w30
            obtain ⟨j, hjl, rfl, HT, HB30, I30, J30, Z30⟩ := hrel
            have hjw : IntKind.i64.wrap ((j : Int) + 1) = (j : Int) + 1 := IntWalk.i64_in _ ⟨by omega, by omega⟩
            have hj0 : (0 : Int) ≤ (j : Int) := by omega
            by_cases hj : j < b.length
            · have hjI : (j : Int) < (b.length : Int) := by omega
              obtain ⟨bb, off, rfl, hlt, hc⟩ := J30.out (by omega)
              have ha := hc j _ (List.getElem?_eq_getElem hj)
              have HTK : Hid (b.take (j + 1) = b.take j ++ [b[j]'hj]) := by show _ = _; rw [List.take_succ_eq_append_getElem hj]
              obtain ⟨x, hx⟩ : ∃ x, x = b[j]'hj := ⟨_, rfl⟩
              rw [← hx] at ha HTK
              have g0 := ha.1
              have g1 := ha.2
              clear ha hx hc
              go_wp2_with fail
              refine (may_any11 x _).mono ?_
              rintro e w31 ⟨rfl, hb⟩
              have HB31 := hid (then_w HB30.out hb)
              have I31 := hid (I30.out.below hb)
              have J31 := hid (J30.out.below hb)
              have Z31 := hid (Z30.out.below hb)
              clear hb g0 g1
              cases hm : may11 x
              · go_wp2_with fail
                go_ret
                exact ⟨rfl, HB31.out⟩
              · have HT2 : Hid (∀ y ∈ b.take (j + 1), may11 y = true) := by
                  show ∀ y ∈ _, _
                  rw [HTK.out]
                  intro y hy
                  rcases List.mem_append.1 hy with hy | hy
                  · exact HT.out y hy
                  · rw [List.mem_singleton] at hy; rw [hy]; exact hm
                clear hm
                go_wp2_with fail
                go_roundw
                case rel => exact ⟨j + 1, by omega, by go_num, HT2, HB31, I31, J31, Z31⟩
                case measure => simp only [intOf]; omega
            · have hje : j = b.length := by omega
              have Hb : Hid (∀ x ∈ b, may11 x = true) := by
                have := HT.out
                rw [hje, List.take_length] at this
                exact this
              subst hje
              clear HT hjw hj0 hjl
              have E0 : (w30.alloc (.cells #[] 34)).ownsRow w30.heap.size 34 2 (.slice (some ⟨w30.heap.size, 0, none⟩) 0 0) ([] : List In).length (([] : List In).flatMap in211) := own_empty11 w30
              obtain ⟨v1, u1, hr1, ho1, hb1⟩ := own_appl11 (w0 := w30) E0 a A ca (I30.out.below (below_alloc _ _)) HNA.out (by decide) (by omega) (below_alloc _ _)
              obtain ⟨v2, u2, hr2, ho2, hb2⟩ := own_appl11 (w0 := w30) ho1 b B cb (J30.out.below hb1) HNB.out (by rw [List.nil_append]; omega) (by omega) hb1
              rw [List.nil_append] at ho2
              have RA := hid hr1
              have RB := hid hr2
              obtain ⟨A2, c2, hv2, hin2, -⟩ := own_ins11 ho2
              have HV2 := hid hv2
              have K40 := hid hin2
              have HB40 := hid (then_w HB30.out hb2)
              have I40 := hid (I30.out.below hb2)
              have J40 := hid (J30.out.below hb2)
              have Z40 := hid (Z30.out.below hb2)
              obtain ⟨w40, hw40⟩ : ∃ u, u = u2 := ⟨_, rfl⟩
              subst hw40
              clear E0 hr1 ho1 hb1 hr2 ho2 hb2 hv2 hin2
              have HAB : Hid (∀ x ∈ a ++ b, may11 x = true) := fun x hx => (List.mem_append.1 hx).elim (Ha.out x) (Hb.out x)
              have PA : Hid (Pk11 a = (pk11 a, 0)) := by show _ = _; unfold Pk11; rw [if_pos (all_is11 Ha.out (by omega))]
              have PB : Hid (Pk11 b = (pk11 b, 0)) := by show _ = _; unfold Pk11; rw [if_pos (all_is11 Hb.out (by omega))]
              have PC : Hid (Pk11 (a ++ b) = (pk11 a ++ pk11 b, 0)) := by show _ = _; unfold Pk11; rw [if_pos (all_is11 HAB.out (by rw [List.length_append]; omega)), pk_app11]
              have RA2 : Hid (Pr11 a = (pr11 a, 0)) := by show _ = _; unfold Pr11; rw [if_pos (all_is11 Ha.out (by omega))]
              have RB2 : Hid (Pr11 b = (pr11 b, 0)) := by show _ = _; unfold Pr11; rw [if_pos (all_is11 Hb.out (by omega))]
              have RC2 : Hid (Pr11 (a ++ b) = (pr11 a ++ pr11 b, 0)) := by show _ = _; unfold Pr11; rw [if_pos (all_is11 HAB.out (by rw [List.length_append]; omega)), pr_app11]
              have LA := pk_len11 a
              have LB := pk_len11 b
              have MA := pr_len11 Ha.out
              have MB := pr_len11 Hb.out
              have TEN : Hid ((pr11 a ++ pr11 b).countP (· == 10) = a.length + b.length) := by show _ = _; rw [List.countP_append, pr_ten11 Ha.out, pr_ten11 Hb.out]
              obtain ⟨X, hX⟩ : ∃ X, X = pk11 a := ⟨_, rfl⟩
              obtain ⟨Y, hY⟩ : ∃ Y, Y = pk11 b := ⟨_, rfl⟩
              obtain ⟨P, hP⟩ : ∃ P, P = pr11 a := ⟨_, rfl⟩
              obtain ⟨Q, hQ⟩ : ∃ Q, Q = pr11 b := ⟨_, rfl⟩
              rw [← hX] at PA PC LA
              rw [← hY] at PB PC LB
              rw [← hP] at RA2 RC2 MA TEN
              rw [← hQ] at RB2 RC2 MB TEN
              clear hX hY hP hQ
              have hla1000 : a.length ≤ 1000 := by omega
              have hlb1000 : b.length ≤ 1000 := by omega
              have hlab : (a ++ b).length = a.length + b.length := List.length_append
              have hl1000 : (a ++ b).length ≤ 1000 := by omega
              obtain ⟨N, hN⟩ : ∃ N, N = (a ++ b).length := ⟨_, rfl⟩
              have hN2 : N = a.length + b.length := by omega
              have HVN : Hid (v2 = .slice A2 N c2) := by show _ = _; rw [hN]; exact HV2.out
              obtain ⟨sx, hsx⟩ : ∃ s, s = str X := ⟨_, rfl⟩
              obtain ⟨sy, hsy⟩ : ∃ s, s = str Y := ⟨_, rfl⟩
              obtain ⟨sz, hsz⟩ : ∃ s, s = str (X ++ Y) := ⟨_, rfl⟩
              obtain ⟨sp, hsp⟩ : ∃ s, s = str P := ⟨_, rfl⟩
              obtain ⟨sq, hsq⟩ : ∃ s, s = str Q := ⟨_, rfl⟩
              obtain ⟨R, hR⟩ : ∃ R, R = P ++ Q := ⟨_, rfl⟩
              obtain ⟨sr, hsr⟩ : ∃ s, s = str R := ⟨_, rfl⟩
              rw [← hR] at RC2 TEN
              have C1 : Hid (∀ w0, InsR w0 A a → Calls Tryd.prog 12 #[.slice A a.length ca] w0 fun e w' => e = .returned (.tuple #[.string sx, .int .i64 0]) ∧ Below w0.heap.size w0 w') := fun w0 h0 => by
                have := cpack_any11 a A ca w0 h0 hla1000
                rw [PA.out] at this; rw [hsx]; exact this
              have C2 : Hid (∀ w0, InsR w0 B b → Calls Tryd.prog 12 #[.slice B b.length cb] w0 fun e w' => e = .returned (.tuple #[.string sy, .int .i64 0]) ∧ Below w0.heap.size w0 w') := fun w0 h0 => by
                have := cpack_any11 b B cb w0 h0 hlb1000
                rw [PB.out] at this; rw [hsy]; exact this
              have C3 : Hid (∀ w0, InsR w0 A2 (a ++ b) → Calls Tryd.prog 12 #[.slice A2 N c2] w0 fun e w' => e = .returned (.tuple #[.string sz, .int .i64 0]) ∧ Below w0.heap.size w0 w') := fun w0 h0 => by
                have := cpack_any11 (a ++ b) A2 c2 w0 h0 hl1000
                rw [PC.out] at this; rw [hsz, hN]; exact this
              have D1 : Hid (∀ w0, InsR w0 A a → Vr11 w0 → Calls Tryd.prog 14 #[.slice A a.length ca] w0 fun e w' => e = .returned (.tuple #[.string sp, .int .i64 0]) ∧ Below w0.heap.size w0 w') := fun w0 h0 z0 => by
                have := cprint_any11 a A ca w0 h0 hla1000 z0
                rw [RA2.out] at this; rw [hsp]; exact this
              have D2 : Hid (∀ w0, InsR w0 B b → Vr11 w0 → Calls Tryd.prog 14 #[.slice B b.length cb] w0 fun e w' => e = .returned (.tuple #[.string sq, .int .i64 0]) ∧ Below w0.heap.size w0 w') := fun w0 h0 z0 => by
                have := cprint_any11 b B cb w0 h0 hlb1000 z0
                rw [RB2.out] at this; rw [hsq]; exact this
              have D3 : Hid (∀ w0, InsR w0 A2 (a ++ b) → Vr11 w0 → Calls Tryd.prog 14 #[.slice A2 N c2] w0 fun e w' => e = .returned (.tuple #[.string sr, .int .i64 0]) ∧ Below w0.heap.size w0 w') := fun w0 h0 z0 => by
                have := cprint_any11 (a ++ b) A2 c2 w0 h0 hl1000 z0
                rw [RC2.out] at this; rw [hsr, hN]; exact this
              have zx : sx.size = 2 * a.length := by rw [hsx, str_size]; exact LA
              have zy : sy.size = 2 * b.length := by rw [hsy, str_size]; exact LB
              have zz : sz.size = 2 * N := by rw [hsz, str_size, List.length_append]; omega
              have zp : sp.size = P.length := by rw [hsp, str_size]
              have zq : sq.size = Q.length := by rw [hsq, str_size]
              have zr : sr.size = R.length := by rw [hsr, str_size]
              have hRl : R.length ≤ 2000 := by rw [hR, List.length_append]; omega
              have c1 : ¬ 9223372036854775807 < sx.size + sy.size := by omega
              have c2' : ¬ 9223372036854775807 < sp.size + sq.size := by omega
              have EZ : Hid (sz = sx ++ sy) := by show _ = _; rw [hsz, hsx, hsy, str_append]
              have ER : Hid (sr = sp ++ sq) := by show _ = _; rw [hsr, hR, hsp, hsq, str_append]
              have HSR := hid hsr
              have ZR := hid zr
              have ZZ := hid zz
              have HN2 := hid hN2
              have TENN : Hid (R.countP (· == 10) = N) := by show _ = _; rw [TEN.out]; exact hN2.symm
              have C1' := hid c1
              have C2' := hid c2'
              have HNB2 : Hid (N ≤ 32) := by show _ ≤ _; omega
              clear PA PB PC RA2 RB2 RC2 LA LB MA MB TEN hsx hsy hsz hsp hsq hR hsr zx zy zz zp zq zr hN hN2 hlab hl1000 hla1000 hlb1000 HV2 HAB c1 c2'
              go_wp2_with (first | (at_builtin; refine wpList_append_run12 rfl (.tmp 59) (.tmp 60) 22 22 rfl rfl (.slice (some ⟨w30.heap.size, 0, none⟩) 0 0) (.slice A a.length ca) (by kernel_rfl) (by kernel_rfl) v1 u1 RA.out ?_) | (at_builtin; refine wpList_append_run12 rfl (.tmp 61) (.tmp 62) 22 22 rfl rfl v1 (.slice B b.length cb) (by kernel_rfl) (by kernel_rfl) v2 w40 RB.out ?_))
              rw [HVN.out]
              clear HVN RA RB
              refine (C1.out _ I40.out).mono ?_
              rintro e w41 ⟨rfl, hb⟩
              have HB41 := hid (HB40.out.trans (hb.mono HB40.out.size))
              have I41 := hid (I40.out.below hb)
              have J41 := hid (J40.out.below hb)
              have K41 := hid (K40.out.below hb)
              have Z41 := hid (Z40.out.below hb)
              clear hb
              go_wp2_with fail
              refine (C2.out _ J41.out).mono ?_
              rintro e w42 ⟨rfl, hb⟩
              have HB42 := hid (HB41.out.trans (hb.mono HB41.out.size))
              have I42 := hid (I41.out.below hb)
              have J42 := hid (J41.out.below hb)
              have K42 := hid (K41.out.below hb)
              have Z42 := hid (Z41.out.below hb)
              clear hb
              go_wp2_with fail
              refine (C3.out _ K42.out).mono ?_
              rintro e w43 ⟨rfl, hb⟩
              have HB43 := hid (HB42.out.trans (hb.mono HB42.out.size))
              have I43 := hid (I42.out.below hb)
              have J43 := hid (J42.out.below hb)
              have K43 := hid (K42.out.below hb)
              have Z43 := hid (Z42.out.below hb)
              clear hb
              go_wp2_with fail
              refine (D1.out _ I43.out Z43.out).mono ?_
              rintro e w44 ⟨rfl, hb⟩
              have HB44 := hid (HB43.out.trans (hb.mono HB43.out.size))
              have I44 := hid (I43.out.below hb)
              have J44 := hid (J43.out.below hb)
              have K44 := hid (K43.out.below hb)
              have Z44 := hid (Z43.out.below hb)
              clear hb
              go_wp2_with fail
              refine (D2.out _ J44.out Z44.out).mono ?_
              rintro e w45 ⟨rfl, hb⟩
              have HB45 := hid (HB44.out.trans (hb.mono HB44.out.size))
              have I45 := hid (I44.out.below hb)
              have J45 := hid (J44.out.below hb)
              have K45 := hid (K44.out.below hb)
              have Z45 := hid (Z44.out.below hb)
              clear hb
              go_wp2_with fail
              refine (D3.out _ K45.out Z45.out).mono ?_
              rintro e w46 ⟨rfl, hb⟩
              have HB46 := hid (HB45.out.trans (hb.mono HB45.out.size))
              have I46 := hid (I45.out.below hb)
              have J46 := hid (J45.out.below hb)
              have K46 := hid (K45.out.below hb)
              have Z46 := hid (Z45.out.below hb)
              clear hb
              go_wp2_with fail
              go_loopw [20, 21] (fun nn i wr => ∃ j : Nat, j ≤ R.length ∧ i = .int .i64 j ∧ nn = .int .i64 (((R.take j).countP (· == 10) : Nat) : Int) ∧ wr = w46) (fun _ i _ => R.length + 1 - (intOf i).toNat)
              case atStart => exact ⟨0, by omega, rfl, rfl, rfl⟩
              case round =>
                obtain ⟨j, hjl, rfl, rfl, rfl⟩ := hrel
                have hjw : IntKind.i64.wrap ((j : Int) + 1) = (j : Int) + 1 := IntWalk.i64_in _ ⟨by omega, by omega⟩
                have hj0 : (0 : Int) ≤ (j : Int) := by omega
                have hcl := List.countP_le_length (p := (· == (10 : UInt8))) (l := R.take j)
                rw [List.length_take] at hcl
                by_cases hj : j < R.length
                · have hjs : j < sr.size := by have := ZR.out; omega
                  have hjI : (j : Int) < (sr.size : Int) := by omega
                  have e1 : (((sr)[j]'hjs).toNat : Int) = ((R[j]'hj).toNat : Int) := by
                    have h := HSR.out
                    subst h
                    exact congrArg (fun b : UInt8 => (b.toNat : Int)) (str_at R j hjs hj)
                  have HNX : Hid ((R.take (j + 1)).countP (· == 10) = (R.take j).countP (· == 10) + if R[j]'hj = 10 then 1 else 0) := by
                    show _ = _
                    rw [List.take_succ_eq_append_getElem hj, List.countP_append, List.countP_singleton]
                    by_cases z : R[j]'hj = 10 <;> simp [z]
                  obtain ⟨x, hx⟩ : ∃ x : Int, x = ((R[j]'hj).toNat : Int) := ⟨_, rfl⟩
                  rw [← hx] at e1
                  obtain ⟨cn, hcn⟩ : ∃ cn, cn = (R.take j).countP (· == 10) := ⟨_, rfl⟩
                  rw [← hcn] at HNX hcl
                  rw [← hcn]
                  have hcw : IntKind.i64.wrap ((cn : Int) + 1) = (cn : Int) + 1 := IntWalk.i64_in _ ⟨by omega, by omega⟩
                  by_cases h10 : R[j]'hj = 10
                  · have hx10 : x = 10 := by rw [hx, h10]; rfl
                    have hxB : (x == 10) = true := by rw [hx10]; rfl
                    have HN1 : Hid ((R.take (j + 1)).countP (· == 10) = cn + 1) := by show _ = _; rw [HNX.out, if_pos h10]
                    clear h10 hx HNX hcn
                    go_wp2_with fail
                    go_roundw
                    case rel => exact ⟨j + 1, by omega, by go_num, by rw [HN1.out]; go_num, trivial⟩
                    case measure => simp only [intOf]; omega
                  · have hx10 : ¬ x = 10 := fun e => h10 (UInt8.toNat_inj.1 (by show (R[j]'hj).toNat = 10; omega))
                    have hxB : (x == 10) = false := beq_eq_false_iff_ne.2 hx10
                    have HN1 : Hid ((R.take (j + 1)).countP (· == 10) = cn) := by show _ = _; rw [HNX.out, if_neg h10]; rfl
                    clear h10 hx HNX hcn
                    go_wp2_with fail
                    go_roundw
                    case rel => exact ⟨j + 1, by omega, by go_num, by rw [HN1.out], trivial⟩
                    case measure => simp only [intOf]; omega
                · have hje : j = R.length := by omega
                  have HE : Hid ((R.take j).countP (· == 10) = N) := by show _ = _; rw [hje, List.take_length]; exact TENN.out
                  have hjI : ¬ (j : Int) < (sr.size : Int) := by have := ZR.out; omega
                  rw [HE.out]
                  have hnb := HNB2.out
                  have zw : IntKind.i64.wrap (2 * (N : Int)) = 2 * (N : Int) := IntWalk.i64_in _ ⟨by omega, by omega⟩
                  have z1 : (sz.size : Int) = 2 * (N : Int) := by have := ZZ.out; omega
                  have c1 := C1'.out
                  have c2 := C2'.out
                  have y1 : sz.toList = (sx ++ sy).toList := by rw [EZ.out]
                  have y2 : (sz.toList == (sx ++ sy).toList) = true := by rw [EZ.out]; exact beq_iff_eq.2 rfl
                  have y3 : sr.toList = (sp ++ sq).toList := by rw [ER.out]
                  have y4 : (sr.toList == (sp ++ sq).toList) = true := by rw [ER.out]; exact beq_iff_eq.2 rfl
                  clear hje hjl hcl hnb
                  go_wp2_with fail
                  go_ret
                  exact ⟨by first | rfl | simp, HB46.out⟩
end Go.Proofs.YtobelbaeaamkkaaDoor
