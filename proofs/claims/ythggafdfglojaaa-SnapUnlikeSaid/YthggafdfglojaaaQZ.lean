/- Sums of parts of texts: what the laws lean on. -/
import Derived.Test.YthggafdfglojaaaQY
namespace Go.Proofs.Ythggafdfglojaaa
open Go.RowKit
set_option maxRecDepth 100000
theorem mx_lt : mx < 4294967296 := by decide
theorem crM_lt {n : Nat} {l : List Nat} (_hl : ∀ c ∈ l, c < 256) : crM n l < 4294967296 := by
  unfold crM mx; omega
theorem turn_turn {n : Nat} (h : n < 4294967296) : mx - (mx - n) = n := by unfold mx; omega
theorem crM_append {n : Nat} {l r : List Nat} (hl : ∀ c ∈ l, c < 256) : crM (crM n l) r = crM n (l ++ r) := by
  unfold crM
  have h : cu (mx - n) l < 4294967296 := cu_lt (by unfold mx; omega) hl
  rw [turn_turn h, cu_append]
theorem crM_nil {n : Nat} (h : n < 4294967296) : crM n [] = n := turn_turn h
theorem crM_inj {a b : Nat} {l : List Nat} (ha : a < 4294967296) (hb : b < 4294967296) (hl : ∀ c ∈ l, c < 256) (e : crM a l = crM b l) : a = b := by
  unfold crM at e
  have h1 : cu (mx - a) l < 4294967296 := cu_lt (by unfold mx; omega) hl
  have h2 : cu (mx - b) l < 4294967296 := cu_lt (by unfold mx; omega) hl
  have h3 : cu (mx - a) l = cu (mx - b) l := by
    have e1 := congrArg (fun x => mx - x) e
    simp only [turn_turn h1, turn_turn h2] at e1
    exact e1
  have h4 : mx - a = mx - b := cu_inj (by unfold mx; omega) (by unfold mx; omega) hl h3
  unfold mx at h4; omega
theorem moI_nat {n : Nat} (h : n < 4294967296) (s : ByteArray) : ∃ m : Nat, m < 4294967296 ∧ moI n s = (m : Int) ∧ m = crM n (byL s) := ⟨_, crM_lt (byL_lt s), moI_yes h s, rfl⟩
theorem byL_ext {s t : ByteArray} (h : byL s = byL t) : s = t := by
  apply ByteArray.ext
  apply Array.toList_inj.1
  unfold byL at h
  exact List.map_inj_right (fun a b e => UInt8.toNat_inj.1 e) |>.1 h
theorem by4_inj {a b : Nat} (ha : a < 4294967296) (hb : b < 4294967296) (e : by4 a = by4 b) : a = b := by
  simp only [by4, List.cons.injEq, and_true] at e
  omega
theorem text7_inj {s t : ByteArray} (h : s.toList = t.toList) : s = t := by
  rw [ByteArray.toList_eq, ByteArray.toList_eq] at h
  have := Array.toList_inj.1 h
  cases s; cases t; simp_all
theorem b4_inj {a b : Nat} (ha : a < 4294967296) (hb : b < 4294967296) (e : (b4B a).toList = (b4B b).toList) : a = b := by
  have : b4B a = b4B b := by
    exact text7_inj e
  have h2 := congrArg byL this
  rw [byL_b4 ha, byL_b4 hb] at h2
  exact by4_inj ha hb h2
theorem byL_extract (s : ByteArray) (i j : Nat) : byL (s.extract i j) = ((byL s).take j).drop i := by
  unfold byL
  rw [ByteArray.data_extract, Array.toList_extract, List.extract_eq_take_drop, List.drop_take, List.map_take, List.map_drop]
theorem byL_one (s : ByteArray) (k : Nat) (h : k < s.size) : byL (s.extract k (k + 1)) = [(s[k]).toNat] := by
  rw [byL_extract, byL_step s k h]
  have : ((byL s).take k).length = k := by rw [List.length_take, byL_len]; omega
  rw [List.drop_append_of_le_length (by omega), List.drop_of_length_le (by omega)]; rfl
theorem byL_append (s t : ByteArray) : byL (s ++ t) = byL s ++ byL t := by
  unfold byL
  rw [ByteArray.data_append, Array.toList_append, List.map_append]
end Go.Proofs.Ythggafdfglojaaa
