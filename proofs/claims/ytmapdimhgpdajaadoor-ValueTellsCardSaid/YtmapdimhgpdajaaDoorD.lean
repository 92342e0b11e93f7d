/- The walks of the document's own answers for layer 1: each returns what the plain definitions say. -/
import Derived.Test.YtmapdimhgpdajaaDoorL
import Derived.WalkSpells
import Derived.Laws.IdiomStrings
namespace Go.Proofs.YtmapdimhgpdajaaDoor
open Go.RowKit
/-- the last digit's text; all digits -/
def digS (n : Int) : ByteArray := ⟨#[UInt8.ofNat (48 + n.toNat % 10)]⟩
def decS (n : Int) : ByteArray := ⟨(Lib.decDigits n.toNat).toArray⟩
theorem conv1 (n : Int) (h0 : 0 ≤ n) (w : World) : (convert 29 9 (.slice (some ⟨w.heap.size, 0, none⟩) 1 1)).run Tryd.prog (w.alloc (.cells #[.int .u8 (48 + n % 10)] 5)) =
    .ok (.string (digS n)) (w.alloc (.cells #[.int .u8 (48 + n % 10)] 5)) := by
  have e : ((UInt8.ofNat (48 + n.toNat % 10)).toNat : Int) = 48 + n % 10 := by simp; omega
  rw [← e]
  exact run_convert_bytes_back _ 29 9 5 ⟨w.heap.size, 0, none⟩ 1 [UInt8.ofNat (48 + n.toNat % 10)] Tryd.underlying29 Tryd.underlying5 Tryd.underlying9 (fun j hj => by
    have : j = 0 := by simp at hj; omega
    subst this
    simp [Addr.add])
theorem dec_len (n : Int) (h0 : 0 ≤ n) (h1 : n ≤ 9223372036854775807) : (decS n).size ≤ 21 := by
  have := Lib.itoa_length_le n (by omega) h1
  unfold Lib.itoa at this
  rw [if_neg (by omega)] at this
  simpa [decS, ByteArray.size] using this
theorem dig_len (n : Int) : (digS n).size ≤ 1 := by simp [digS, ByteArray.size]
theorem dec_small (n : Int) (h0 : 0 ≤ n) (hn : n < 10) : decS n = digS n := by
  unfold decS digS
  rw [Lib.decDigits, dif_pos (by omega), Nat.mod_eq_of_lt (by omega)]
theorem dec_snoc (n : Int) (hn : 10 ≤ n) : decS (n / 10) ++ digS n = decS n := by
  have e : (n / 10).toNat = n.toNat / 10 := by omega
  have e2 : Lib.decDigits n.toNat = Lib.decDigits (n.toNat / 10) ++ [UInt8.ofNat (48 + n.toNat % 10)] := by
    conv => lhs; rw [Lib.decDigits, dif_neg (by omega)]
  unfold decS digS
  rw [e2, e]
  apply ByteArray.ext
  simp
theorem digits_pos (k : Nat) : ∀ (n : Int) (w : World), 0 ≤ n → n ≤ 9223372036854775807 → n < k →
    Calls Tryd.prog 24 #[.int .i64 n] w fun e w' => e = .returned (.string (decS n)) ∧ Below w.heap.size w w' := by
  induction k with
  | zero => intro n w h0 h1 hk; omega
  | succ k ih =>
    intro n w h0 h1 hk
    have Hih := Lib.hid ih
    clear ih
    have hconv := conv1 n h0 w
    have hb0 : Below w.heap.size w (w.alloc (.cells #[.int .u8 (48 + n % 10)] 5)) := (Below.refl _ _).alloc (Nat.le_refl _) _
    have HB0 := Lib.hid hb0
    clear hb0
    have Hk := Lib.hid hk
    clear hk
    by_cases hn : n < 10
    · rw [dec_small n h0 hn]
      go_enter Tryd.func24, Tryd.ntmps24
      go_wp2_with fail
      go_ret
      exact ⟨rfl, HB0.out⟩
    · have hn' : 10 ≤ n := by omega
      rw [← dec_snoc n hn']
      have hl := dec_len (n / 10) (by omega) (by omega)
      have hl2 := dig_len n
      clear hn
      go_enter Tryd.func24, Tryd.ntmps24
      go_wp2_with fail
      refine (Hih.out (n / 10) _ (by omega) (by omega) (by have := Hk.out; omega)).mono ?_
      rintro e w1 ⟨rfl, hb1⟩
      have HB1 := Lib.hid hb1
      clear hb1 hconv
      go_wp2_with fail
      go_ret
      exact ⟨rfl, HB0.out.trans (HB1.out.mono (by simp))⟩
/-- a number's digits, with a sign -/
def itoS (n : Int) : ByteArray := ⟨(Lib.itoa n).toArray⟩
theorem ito_pos {n : Int} (h : 0 ≤ n) : itoS n = decS n := by unfold itoS decS Lib.itoa; rw [if_neg (by omega)]
theorem ito_neg {n : Int} (h : n < 0) : (⟨#[45]⟩ : ByteArray) ++ decS (-n) = itoS n := by
  unfold itoS decS Lib.itoa
  rw [if_pos h, show (-n).toNat = n.natAbs from by omega]
  apply ByteArray.ext
  simp
theorem td_neg {n : Int} (h : n < 0) : n.tdiv 10 = -((-n) / 10) := by
  have : n = -(-n) := by omega
  rw [this, Int.neg_tdiv, Int.tdiv_eq_ediv_of_nonneg (by omega)]
  omega
theorem tm_neg {n : Int} (h : n < 0) : n.tmod 10 = -((-n) % 10) := by
  have : n = -(-n) := by omega
  rw [this, Int.neg_tmod, Int.tmod_eq_emod_of_nonneg (by omega)]
  omega
theorem digits_any (n : Int) (w : World) (h0 : -9223372036854775808 ≤ n) (h1 : n ≤ 9223372036854775807) :
    Calls Tryd.prog 24 #[.int .i64 n] w fun e w' => e = .returned (.string (itoS n)) ∧ Below w.heap.size w w' := by
  have P := fun (n : Int) (w : World) h1 h2 => digits_pos (n.toNat + 1) n w h1 h2 (by omega)
  by_cases hp : 0 ≤ n
  · rw [ito_pos hp]; exact P n w hp h1
  · have HP := Lib.hid P
    clear P
    have hn : n < 0 := by omega
    clear hp
    have et := td_neg hn
    have em := tm_neg hn
    by_cases h10 : n ≤ -10
    · have e : (⟨#[45]⟩ : ByteArray) ++ decS (-(n.tdiv 10)) ++ decS (-(n.tmod 10)) = itoS n := by
        rw [← ito_neg hn, ← dec_snoc (-n) (by omega), dec_small (-(n.tmod 10)) (by omega) (by omega)]
        have e1 : (-n) / 10 = -(n.tdiv 10) := by omega
        have e2 : digS (-(n.tmod 10)) = digS (-n) := by
          unfold digS
          rw [show (-(n.tmod 10)).toNat % 10 = (-n).toNat % 10 from by omega]
        rw [e1, e2, ByteArray.append_assoc]
      rw [← e]; clear e
      have hl := dec_len (-(n.tdiv 10)) (by omega) (by omega)
      have hl2 := dec_len (-(n.tmod 10)) (by omega) (by omega)
      have hb1 : n.tdiv 10 ≤ 0 := by omega
      have hb2 : -922337203685477580 ≤ n.tdiv 10 := by omega
      have hb3 : n.tmod 10 ≤ 0 := by omega
      have hb4 : -9 ≤ n.tmod 10 := by omega
      clear et em
      go_enter Tryd.func24, Tryd.ntmps24
      go_wp2_with fail
      refine (HP.out _ _ (by omega) (by omega)).mono ?_
      rintro e w1 ⟨rfl, hb1⟩
      have HB1 := Lib.hid hb1
      clear hb1
      go_wp2_with fail
      refine (HP.out _ _ (by omega) (by omega)).mono ?_
      rintro e w2 ⟨rfl, hb2⟩
      have HB2 := Lib.hid hb2
      clear hb2
      go_wp2_with fail
      go_ret
      exact ⟨rfl, HB1.out.trans (HB2.out.mono HB1.out.size)⟩
    · rw [← ito_neg hn]
      have hl := dec_len (-n) (by omega) (by omega)
      have h10' : -10 < n := by omega
      clear et em
      clear h10
      go_enter Tryd.func24, Tryd.ntmps24
      go_wp2_with fail
      refine (HP.out (-n) _ (by omega) (by omega)).mono ?_
      rintro e w1 ⟨rfl, hb1⟩
      go_wp2_with fail
      go_ret
      exact ⟨rfl, hb1⟩
end Go.Proofs.YtmapdimhgpdajaaDoor
