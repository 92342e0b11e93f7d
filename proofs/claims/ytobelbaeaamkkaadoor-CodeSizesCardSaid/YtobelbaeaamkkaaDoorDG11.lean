/- The document's digits. -/
import Derived.Test.YtobelbaeaamkkaaDoorSA11
import Derived.Lib.ItoaLen
import Derived.WalkSpells
import Derived.Laws.IdiomStrings
namespace Go.Proofs.YtobelbaeaamkkaaDoor
open Go.RowKit
set_option maxRecDepth 100000
/-- the last digit's text; all digits -/
def digS (n : Int) : ByteArray := ⟨#[UInt8.ofNat (48 + n.toNat % 10)]⟩
def decS (n : Int) : ByteArray := ⟨(Lib.decDigits n.toNat).toArray⟩
theorem conv1 (n : Int) (h0 : 0 ≤ n) (w : World) : (convert 40 9 (.slice (some ⟨w.heap.size, 0, none⟩) 1 1)).run Tryd.prog (w.alloc (.cells #[.int .u8 (48 + n % 10)] 5)) =
    .ok (.string (digS n)) (w.alloc (.cells #[.int .u8 (48 + n % 10)] 5)) := by
  have e : ((UInt8.ofNat (48 + n.toNat % 10)).toNat : Int) = 48 + n % 10 := by simp; omega
  rw [← e]
  exact run_convert_bytes_back _ 40 9 5 ⟨w.heap.size, 0, none⟩ 1 [UInt8.ofNat (48 + n.toNat % 10)] Tryd.underlying40 Tryd.underlying5 Tryd.underlying9 (fun j hj => by
    have : j = 0 := by simp at hj; omega
    subst this
    simp [Addr.add])
theorem dec_len (n : Int) (h0 : 0 ≤ n) (h1 : n ≤ 9223372036854775807) : (decS n).size ≤ 21 := by
  have := Lib.itoa_length_le n (by omega) h1
  unfold Lib.itoa at this
  rw [if_neg (by omega)] at this
  simpa [decS, ByteArray.size] using this
theorem dig_len (n : Int) : (digS n).size ≤ 1 := by simp [digS, ByteArray.size]
theorem dec_small (n : Int) (h0 : 0 ≤ n) (hn : n < 10) : decS n = digS n := by
  unfold decS digS
  rw [Lib.decDigits, dif_pos (by omega), Nat.mod_eq_of_lt (by omega)]
theorem dec_snoc (n : Int) (hn : 10 ≤ n) : decS (n / 10) ++ digS n = decS n := by
  have e : (n / 10).toNat = n.toNat / 10 := by omega
  have e2 : Lib.decDigits n.toNat = Lib.decDigits (n.toNat / 10) ++ [UInt8.ofNat (48 + n.toNat % 10)] := by
    conv => lhs; rw [Lib.decDigits, dif_neg (by omega)]
  unfold decS digS
  rw [e2, e]
  apply ByteArray.ext
  simp
theorem digits_pos (k : Nat) : ∀ (n : Int) (w : World), 0 ≤ n → n ≤ 9223372036854775807 → n < k →
    Calls Tryd.prog 43 #[.int .i64 n] w fun e w' => e = .returned (.string (decS n)) ∧ Below w.heap.size w w' := by
  induction k with
  | zero => intro n w h0 h1 hk; omega
  | succ k ih =>
    intro n w h0 h1 hk
    have Hih := hid ih
    clear ih
    have hconv := conv1 n h0 w
    have hb0 : Below w.heap.size w (w.alloc (.cells #[.int .u8 (48 + n % 10)] 5)) := (Below.refl _ _).alloc (Nat.le_refl _) _
    have HB0 := hid hb0
    clear hb0
    have Hk := hid hk
    clear hk
    by_cases hn : n < 10
    · rw [dec_small n h0 hn]
      go_enter Tryd.func43, Tryd.ntmps43
      go_wp2_with fail
      go_ret
      exact ⟨rfl, HB0.out⟩
    · have hn' : 10 ≤ n := by omega
      rw [← dec_snoc n hn']
      have hl := dec_len (n / 10) (by omega) (by omega)
      have hl2 := dig_len n
      clear hn
      go_enter Tryd.func43, Tryd.ntmps43
      go_wp2_with fail
      refine (Hih.out (n / 10) _ (by omega) (by omega) (by have := Hk.out; omega)).mono ?_
      rintro e w1 ⟨rfl, hb1⟩
      have HB1 := hid hb1
      clear hb1 hconv
      go_wp2_with fail
      go_ret
      exact ⟨rfl, HB0.out.trans (HB1.out.mono (by simp))⟩
theorem dg11_is {n : Int} (h0 : 0 ≤ n) (h1 : n < 1000) : decS n = str (dg11 n) := by
  have e : Lib.decDigits n.toNat = dg11 n := by
    unfold dg11
    by_cases a : n < 10
    · rw [if_pos a, Lib.decDigits, dif_pos (by omega)]
    · rw [if_neg a, Lib.decDigits, dif_neg (by omega)]
      by_cases b : n < 100
      · rw [if_pos b, Lib.decDigits, dif_pos (by omega)]; rfl
      · rw [if_neg b, Lib.decDigits, dif_neg (by omega), Lib.decDigits, dif_pos (by omega), Nat.div_div_eq_div_mul]; rfl
  unfold decS str
  rw [e]
theorem digs_any11 (n : Int) (h0 : 0 ≤ n) (h1 : n < 1000) (w : World) : Calls Tryd.prog 43 #[.int .i64 n] w fun e w' => e = .returned (.string (str (dg11 n))) ∧ Below w.heap.size w w' := by
  rw [← dg11_is h0 h1]
  exact digits_pos (n.toNat + 1) n w h0 (by omega) (by omega)
end Go.Proofs.YtobelbaeaamkkaaDoor
