/- slices.Backward over ints, as an iterator: what comes. -/
import Derived.Test.YtkpfmbdkfgeboaaRF14
namespace Go.Proofs.Ytkpfmbdkfgeboaa
open Go.RowKit Go.Shelf
attribute [local go_sem] Oper.semAt_some
set_option maxRecDepth 100000
/-- the places and the ints of l, from the last one on -/
def back14 (l : List Int) : List (Nat × Int) := (l.zipIdx.map fun x => (x.2, x.1)).reverse
abbrev encB14 (x : Nat × Int) : Array Value := #[.int .i64 (x.1 : Int), .int .i64 x.2]
theorem back_len14 (l : List Int) : (back14 l).length = l.length := by unfold back14; simp
theorem back_take14 {l : List Int} {k : Nat} (hk : k < l.length) : (back14 l).take (l.length - k) = (back14 l).take (l.length - (k + 1)) ++ [(k, l[k])] := by
  have e : l.length - k = (l.length - (k + 1)) + 1 := by omega
  rw [e, List.take_succ_eq_append_getElem (by rw [back_len14]; omega)]
  congr 1
  unfold back14
  simp [List.getElem_reverse]
  have e2 : l.length - 1 - (l.length - (k + 1)) = k := by omega
  simp [e2]
theorem pback_any14 (S : Option Addr) (n c : Nat) (w : World) :
    Calls Try.prog 82 #[.slice S n c] w fun e w' => e = .returned (.func (.func 86) #[] #[.pointer (some ⟨w.heap.size, 0, none⟩)]) ∧ w' = w.alloc (.cells #[.slice S n c] 27) := by
  go_enter Try.func82, Try.ntmps82
  go_wp2
  go_ret
  exact ⟨by simp, rfl⟩
set_option maxHeartbeats 2000000 in
theorem back_seq14 (l : List Int) (S : Option Addr) (c n bl : Nat) (Wr : Nat → Prop) (w : World) (hl : l.length ≤ 300) (hbl : Lies w bl 27 #[.slice S l.length c]) (hnb : ¬ Wr bl) (hr : IntsR w S l) (hrk : ∀ W, Kp14 Wr w W → IntsR W S l) :
    Seq14 n Try.prog 86 #[.pointer (some ⟨bl, 0, none⟩)] encB14 (Kp14 Wr) (back14 l) w := fun yl J W hW hJ hY h0 => by
  have HKW : Hid (Kp14 Wr w W) := Kp14.of_below hW
  have HBL := hid hbl
  have HRK := hid hrk
  clear hbl hr hrk
  refine callsIn_of_wp Try.func86 rfl trivial ?_ rfl
  simp only [Try.ntmps86, List.size_toArray, List.length_cons, List.length_nil, Nat.reduceAdd, Nat.reduceSub, Array.replicate_succ, Array.replicate_zero, List.push_toArray, List.append_toArray, List.nil_append, List.cons_append]
  have b0 := (HKW.out.lies HBL.out hnb).cell 0
  simp only [List.getElem?_toArray, List.getElem?_cons_zero] at b0
  have hwr : IntKind.i64.wrap ((l.length : Int) - 1) = (l.length : Int) - 1 := IntWalk.i64_in _ (by omega)
  gi_wp2
  clear b0 hwr
  gi_loopw [3] (fun i wr => ∃ (k : Nat), k ≤ l.length ∧ i = .int .i64 ((k : Int) - 1) ∧ Hid (J ((back14 l).take (l.length - k)) wr) ∧ Hid (Kp14 Wr w wr))
    (fun i _ => ((intOf i) + 1).toNat)
  case atStart => exact ⟨l.length, Nat.le_refl _, rfl, (by show J _ _; simpa using h0), HKW⟩
  case round =>
    obtain ⟨k, hk, rfl, HJ, HK⟩ := hrel
    cases k with
    | zero =>
      have HD : Hid (J (back14 l) wr) := by
        have := HJ.out
        rw [Nat.sub_zero, List.take_of_length_le (by rw [back_len14]; exact Nat.le_refl _)] at this
        exact this
      gi_wp2
      go_end0
      exact ⟨⟨_, rfl⟩, HD.out⟩
    | succ k =>
      have hkl : k < l.length := by omega
      have e1 : ((k + 1 : Nat) : Int) - 1 = (k : Int) := by omega
      have hk0 : (0 : Int) ≤ (k : Int) := by omega
      have hkI : (k : Int) < (l.length : Int) := by omega
      have hwr : IntKind.i64.wrap ((k : Int) - 1) = (k : Int) - 1 := IntWalk.i64_in _ (by omega)
      rw [e1]
      have b0 := (HK.out.lies HBL.out hnb).cell 0
      simp only [List.getElem?_toArray, List.getElem?_cons_zero] at b0
      have HRW := hid (HRK.out _ HK.out)
      obtain ⟨bs, os, hS, hbs, hcs⟩ := HRW.out (by omega)
      subst hS
      have y0 := hcs k _ (List.getElem?_eq_getElem hkl)
      have HT := hid (back_take14 hkl)
      obtain ⟨v, hv⟩ : ∃ v, v = l[k] := ⟨_, rfl⟩
      rw [← hv] at y0 HT
      have hpre : (back14 l).take (l.length - (k + 1)) ++ [(k, v)] <+: back14 l := by rw [← HT.out]; exact List.take_prefix _ _
      obtain ⟨fn, tmps, assign, body, hy, hR⟩ := hY _ (k, v) wr HJ.out hpre
      dsimp only [encB14] at hy
      clear hv hcs hpre hbs
      gi_wp2
      refine ⟨fun hh => (by cases hh), (round_any14 hR).mono ?_⟩
      rintro e W3 ⟨rfl, hJ3, hk3, -⟩
      rw [← HT.out] at hJ3
      have HJ3 := hid hJ3
      have HK3 := hid (HK.out.trans hk3)
      clear hJ3 hk3 b0 y0
      gi_wp2
      go_roundw
      case rel => exact ⟨k, by omega, by go_num, HJ3, HK3⟩
      case measure => simp [intOf]
end Go.Proofs.Ytkpfmbdkfgeboaa
