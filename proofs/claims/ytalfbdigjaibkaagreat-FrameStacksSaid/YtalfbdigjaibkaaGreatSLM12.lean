/- What follows of a context's words alone: its places may be written. -/
import Derived.Test.YtalfbdigjaibkaaGreatSG12
import Derived.Test.YtalfbdigjaibkaaGreatMK0
namespace Go.Proofs.YtalfbdigjaibkaaGreat
open Go.RowKit
set_option maxRecDepth 100000
def HeapOE12 (w : World) (h' : Hp) (en : Int) (e : Ending) (w' : World) : Prop := ∃ A c ls, e = .returned (.tuple #[.agg #[.slice A h'.objs.length c, .int .i64 h'.cap, .int .i64 h'.last], .int .i64 en]) ∧ ls.map (·.o) = h'.objs ∧ OwnH w' w.heap.size A c ls ∧ Below w.heap.size w w'
/-- a place of a context, written: nothing stands against it -/
theorem temps_le12 {h : Hp} {c : Int} (e : may12 h c = true) : (cm12 h c).temps ≤ 16 := by
  have hb2 := (may_parts12 e).2.2.2.2.2.2.2
  have := sm_bd12 (v := sl12 h c 2) (most := 16)
  unfold sp12 at hb2
  omega
theorem sp_bd12 {h : Hp} {c : Int} : -1 ≤ sp12 h c ∧ sp12 h c ≤ 16 := by
  have := sm_bd12 (v := sl12 h c 2) (most := 16)
  unfold sp12
  omega
theorem set_ok12 {h : Hp} {c k x : Int} (e : may12 h c = true) (hx : hasB h.objs.length x = true) (h0 : 0 ≤ k) (h1 : k < 22) : setE h c k x = 0 := by
  obtain ⟨hm, h22, -⟩ := may_parts12 e
  have hne : sls12 h c ≠ [] := fun z => by rw [z] at h22; cases h22
  obtain ⟨hk, hs⟩ := sls_some12 hne
  obtain ⟨hr, hk0⟩ := kd_ref12 hk
  have hl : (obAt h c).slots.length = 22 := by rw [← hs]; exact h22
  have hp : plE h c 0 k = 0 := by
    unfold plE szO
    simp only [hm, hr, hk0, hl]
    simp
    omega
  unfold setE
  rw [if_pos hp, if_pos hx]
theorem temps_nn12 {h : Hp} {c : Int} (e : may12 h c = true) : 0 ≤ (cm12 h c).temps ∧ (cm12 h c).temps ≤ sp12 h c ∧ sp12 h c ≤ 16 := by
  obtain ⟨-, -, e3, -, -, -, -, e8⟩ := may_parts12 e
  obtain ⟨m1, m2⟩ := mt_ok12 e3
  obtain ⟨-, -, -, -, -, -, a1, a2, -⟩ := mb_parts12 m1
  have a3 : (cm12 h c).temps = (mx12 h (sl12 h c 3)).temps := by unfold cm12; rw [m2]
  exact ⟨by omega, e8, sp_bd12.2⟩
theorem pl_set12 {h : Hp} {c k x : Int} (e : setE h c k x = 0) : plE h c 0 k = 0 := by
  by_cases z : plE h c 0 k = 0
  · exact z
  · unfold setE at e; rw [if_neg z] at e; exact absurd e z
/-- a second place, written behind a first one: nothing stands against it -/
theorem set_again12 {h : Hp} {c k x j y : Int} (e : may12 h c = true) (hx : hasB h.objs.length x = true) (k0 : 0 ≤ k) (k1 : k < 22) (hy : hasB h.objs.length y = true) (j0 : 0 ≤ j) (j1 : j < 22) :
    setE (setR h c k x) c j y = 0 ∧ (setR h c k x).Fit := by
  have E := set_ok12 e hx k0 k1
  have p := pl_set12 E
  have p2 := pl_set12 (set_ok12 e hy j0 j1)
  have R : setR h c k x = setH h c k x := by unfold setR; rw [if_pos E]
  rw [R]
  refine ⟨?_, may_fit (set_may (placed p) hx)⟩
  unfold setE
  rw [set_plE (placed p) hx, if_pos p2, setH_len, if_pos hy]
theorem odd_has12 {n : Nat} {v : Int} (h0 : 0 ≤ v) (h1 : v ≤ 1000) : hasB n (2 * v + 1) = true := by
  have h2 : nB (2 * v + 1) = true := by
    unfold nB odB smB
    simp
    omega
  unfold hasB
  rw [h2]
  rfl
theorem nil_has12 {h : Hp} {c : Int} (e : may12 h c = true) : hasB h.objs.length 0 = true := by
  obtain ⟨-, h22, -⟩ := may_parts12 e
  obtain ⟨hk, -⟩ := sls_some12 (h := h) (v := c) (fun z => by rw [z] at h22; cases h22)
  obtain ⟨-, h0, h1⟩ := refB_no (kd_ref12 hk).1
  have a : atB 0 = true := by decide
  have b : atV 0 = 0 := by decide
  unfold hasB refB
  rw [a, b, Bool.true_and, decide_eq_true (by omega), Bool.or_true]
theorem code_le12 {h : Hp} {v : Int} : ((mt12 h v).1.code.length : Int) ≤ 32 := by
  by_cases z : (mt12 h v).2 = 0
  · obtain ⟨z1, z2⟩ := mt_ok12 z
    have z3 : (mt12 h v).1.code = (cd12 h v).1 := by rw [z2]; rfl
    have z4 := up_len12 (obAt h (sl12 h v 3)).text.data.toList
    have z5 : (mt12 h v).1.code.length ≤ 32 := by rw [z3]; exact z4
    omega
  · rw [mt_no12 z]; decide
/-- another bound above the number: it is the same number -/
theorem sm_same12 {v a b : Int} (e : 0 ≤ sm12 v a) (h : a ≤ b) : sm12 v b = sm12 v a ∧ sm12 v b ≤ a := by
  unfold sm12 at e ⊢
  split at e
  · next g => rw [if_pos g, if_pos ⟨g.1, g.2.1, by omega⟩]; exact ⟨rfl, g.2.2⟩
  · exact absurd e (by decide)
end Go.Proofs.YtalfbdigjaibkaaGreat
