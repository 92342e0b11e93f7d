/- The program's cache: where a place lies. -/
import Derived.Test.YtcahdhocilmoeaaCB10
namespace Go.Proofs.Ytcahdhocilmoeaa
open Go.RowKit
set_option maxRecDepth 100000
def zz10 (c s : Int) : Int := IntKind.i64.wrap (IntKind.i64.wrap (31 * c) + s)
theorem pl10_neg {n : Nat} {c s : Int} (hn : 1 ≤ n) (h : (zz10 c s).tmod n < 0) : pl10 n c s = (zz10 c s).tmod n + n := by
  have hm := pl10_mid hn (zz10 c s)
  show ((zz10 c s).tmod n + n).tmod n = _
  rw [Int.tmod_eq_of_lt (by omega) (by omega)]
theorem pl10_pos {n : Nat} {c s : Int} (hn : 1 ≤ n) (h : ¬ (zz10 c s).tmod n < 0) : pl10 n c s = (zz10 c s).tmod n := by
  have hm := pl10_mid hn (zz10 c s)
  show ((zz10 c s).tmod n + n).tmod n = _
  obtain ⟨r, hr⟩ : ∃ r, r = (zz10 c s).tmod n := ⟨_, rfl⟩
  rw [← hr] at h hm ⊢
  have h2 : r < n := by rw [hr]; exact Int.tmod_lt_of_pos _ (by omega)
  rw [Int.tmod_eq_emod_of_nonneg (by omega), Int.add_emod_right, Int.emod_eq_of_lt (by omega) h2]
set_option maxHeartbeats 1000000 in
theorem plc_any10 {w : World} {p q : Nat} {L : List En} {n m : Int} (h : Ca w p q L n m) (hl : 1 ≤ L.length) (hl2 : L.length ≤ 64) (c s : Int) :
    Calls Try.prog 69 #[pp10 p, .agg #[.int .i64 c, .int .i64 s]] w fun e w' => e = .returned (.pointer (some ⟨q, (pl10 L.length c s).toNat * 5, none⟩)) ∧ Below w.heap.size w w' := by
  have hb := below_alloc w (.cells #[.int .i64 c, .int .i64 s] 88)
  have HB := hid hb
  have X := (h.box.later hb)
  have c0 := X.cell 0
  simp only [List.getElem?_toArray, List.getElem?_cons_zero] at c0
  have hl0 : (L.length : Int) ≠ 0 := by omega
  have hl1 : ¬ L.length = 0 := by omega
  have hl3 : (L.length : Int) ≤ 64 := by omega
  clear h hb X
  obtain ⟨r, hr⟩ : ∃ r, (wrap64 (wrap64 (31 * c) + s)).tmod (L.length : Int) = r := ⟨_, rfl⟩
  have e1 : zz10 c s = wrap64 (wrap64 (31 * c) + s) := by unfold zz10; rw [IntWalk.i64_left, IntWalk.i64_left]
  have hin := pl10_in hl c s
  obtain ⟨k, hk⟩ : ∃ k : Nat, pl10 L.length c s = k := ⟨(pl10 L.length c s).toNat, by omega⟩
  rw [hk] at hin ⊢
  rw [Int.toNat_natCast]
  have hkl : (k : Int) < (L.length : Int) := hin.2
  have hkn : k < L.length := by omega
  by_cases h : r < 0
  · have hn := pl10_neg (c := c) (s := s) hl (by rw [e1, hr]; exact h)
    rw [e1, hr, hk] at hn
    have hw : wrap64 (r + (L.length : Int)) = (k : Int) := by rw [← hn]; exact IntWalk.wrap64_in _ (by omega)
    have hk0 : (0 : Int) ≤ (k : Int) := by omega
    clear hn e1 hk hin
    go_enter Try.func69, Try.ntmps69
    go_wp2_with fail
    go_ret
    exact ⟨rfl, HB.out⟩
  · have hn := pl10_pos (c := c) (s := s) hl (by rw [e1, hr]; exact h)
    rw [e1, hr, hk] at hn
    subst hn
    have hk0 : (0 : Int) ≤ (k : Int) := by omega
    clear e1 hk hin
    go_enter Try.func69, Try.ntmps69
    go_wp2_with fail
    go_ret
    exact ⟨rfl, HB.out⟩
end Go.Proofs.Ytcahdhocilmoeaa
