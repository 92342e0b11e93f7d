/- Methods and contexts, in plain mathematics: what a method object has, what a context is, what is pushed, popped, set, gone to, begun. -/
import Derived.Test.YtalfbdigjaibkaaGreatSB11
import Derived.Test.YtalfbdigjaibkaaGreatT0
namespace Go.Proofs.YtalfbdigjaibkaaGreat
open Go.RowKit
/-- what a method has -/
structure Mt where
  prim : Int
  args : Int
  temps : Int
  code : List In
  lits : List Int
def mt0 : Mt := ⟨0, 0, 0, [], []⟩
/-- is a value the ref of an object of a kind? its slots, if it is Pointers -/
def kd12 (h : Hp) (v k : Int) : Bool := refB h.objs.length v && decide ((obAt h v).kind = k)
def sls12 (h : Hp) (v : Int) : List Int := if kd12 h v 0 then (obAt h v).slots else []
def sl12 (h : Hp) (v : Int) (k : Nat) : Int := (sls12 h v).getD k 0
/-- a SmallInteger from 0 to another one; else -1 -/
def sm12 (v most : Int) : Int := if nB v = true ∧ 0 ≤ nV v ∧ nV v ≤ most then nV v else -1
/-- the instructions of a method; what it has -/
def cd12 (h : Hp) (m : Int) : List In × Int := Up11 (obAt h (sl12 h m 3)).text.data.toList
def mx12 (h : Hp) (m : Int) : Mt := ⟨sm12 (sl12 h m 0) 63, sm12 (sl12 h m 1) 4, sm12 (sl12 h m 2) 8, (cd12 h m).1, sls12 h (sl12 h m 4)⟩
def mb12 (h : Hp) (m : Int) : Bool :=
  mayB h && (decide ((sls12 h m).length = 5) && (kd12 h (sl12 h m 3) 1 && (kd12 h (sl12 h m 4) 0 && (decide ((cd12 h m).2 = 0) && (decide (0 ≤ (mx12 h m).prim) && (decide (0 ≤ (mx12 h m).args) && (decide ((mx12 h m).args ≤ (mx12 h m).temps) &&
    decide (ck11 (mx12 h m).code (mx12 h m).lits.length (mx12 h m).temps = 0))))))))
def mt12 (h : Hp) (m : Int) : Mt × Int := if mb12 h m then (mx12 h m, 0) else (mt0, 120)
/-- the method of a context; is it one? how many count -/
def cm12 (h : Hp) (c : Int) : Mt := (mt12 h (sl12 h c 3)).1
def may12 (h : Hp) (c : Int) : Bool :=
  mayB h && (decide ((sls12 h c).length = 22) && (decide ((mt12 h (sl12 h c 3)).2 = 0) && (decide ((obAt h c).cls = 12) && (decide (0 ≤ refI h.objs.length (sl12 h c 0)) && (decide (0 ≤ refI h.objs.length (sl12 h c 5)) &&
    (decide (0 ≤ sm12 (sl12 h c 1) ((cm12 h c).code.length - 1)) && decide ((cm12 h c).temps ≤ sm12 (sl12 h c 2) 16)))))))
def sp12 (h : Hp) (c : Int) : Int := sm12 (sl12 h c 2) 16
/-- a list of values, set one behind the other -/
def sets12 (g : Hp) (c : Int) : Nat → List Int → Hp
  | _, [] => g
  | i, x :: l => sets12 (setR g c i x) c (i + 1) l
def pu12 (h : Hp) (c v : Int) : Hp × Int :=
  if may12 h c = false then (h, 120) else if hasB h.objs.length v = false then (h, 31) else if sp12 h c = 16 then (h, 121)
  else (setR (setR h c (6 + sp12 h c) v) c 2 (2 * sp12 h c + 3), 0)
def po12 (h : Hp) (c : Int) : Hp × Int × Int :=
  if may12 h c = false then (h, 0, 120) else if sp12 h c = (cm12 h c).temps then (h, 0, 121)
  else (setR (setR h c (5 + sp12 h c) 0) c 2 (2 * sp12 h c - 1), sl12 h c (5 + sp12 h c).toNat, 0)
def te12 (h : Hp) (c k : Int) : Int × Int :=
  if may12 h c = false then (0, 120) else if k < 0 ∨ (cm12 h c).temps ≤ k then (0, 121) else (sl12 h c (6 + k).toNat, 0)
def st12 (h : Hp) (c k v : Int) : Hp × Int :=
  if may12 h c = false then (h, 120) else if hasB h.objs.length v = false then (h, 31) else if k < 0 ∨ (cm12 h c).temps ≤ k then (h, 121) else (setR h c (6 + k) v, 0)
def go12 (h : Hp) (c ip : Int) : Hp × Int :=
  if may12 h c = false then (h, 120) else if ip < 0 ∨ ((cm12 h c).code.length : Int) ≤ ip then (h, 120) else (setR h c 1 (2 * ip + 1), 0)
def at12 (h : Hp) (c : Int) : Int × In × Int :=
  if may12 h c = false then (0, ⟨0, 0⟩, 120) else (sm12 (sl12 h c 1) 64, (cm12 h c).code.getD (sm12 (sl12 h c 1) 64).toNat ⟨0, 0⟩, 0)
/-! What follows of these words alone -/
theorem kd_ref12 {h : Hp} {v k : Int} (e : kd12 h v k = true) : refB h.objs.length v = true ∧ (obAt h v).kind = k := by
  unfold kd12 at e
  simp only [Bool.and_eq_true, decide_eq_true_eq] at e
  exact e
theorem sls_some12 {h : Hp} {v : Int} (e : sls12 h v ≠ []) : kd12 h v 0 = true ∧ sls12 h v = (obAt h v).slots := by
  unfold sls12 at e ⊢
  cases hk : kd12 h v 0
  · rw [hk] at e; exact absurd rfl e
  · exact ⟨rfl, if_pos rfl⟩
theorem sm_bd12 {v most : Int} : sm12 v most = -1 ∨ 0 ≤ sm12 v most ∧ sm12 v most ≤ most := by
  unfold sm12
  split
  · next h => exact .inr ⟨h.2.1, h.2.2⟩
  · exact .inl rfl
/-- a method's parts -/
theorem mb_parts12 {h : Hp} {m : Int} (e : mb12 h m = true) : mayB h = true ∧ (sls12 h m).length = 5 ∧ kd12 h (sl12 h m 3) 1 = true ∧ kd12 h (sl12 h m 4) 0 = true ∧ (cd12 h m).2 = 0 ∧ 0 ≤ (mx12 h m).prim ∧ 0 ≤ (mx12 h m).args ∧
    (mx12 h m).args ≤ (mx12 h m).temps ∧ ck11 (mx12 h m).code (mx12 h m).lits.length (mx12 h m).temps = 0 := by
  unfold mb12 at e
  simp only [Bool.and_eq_true, decide_eq_true_eq] at e
  obtain ⟨e1, e2, e3, e4, e5, e6, e7, e8, e9⟩ := e
  exact ⟨e1, e2, e3, e4, e5, e6, e7, e8, e9⟩
theorem mt_ok12 {h : Hp} {m : Int} (e : (mt12 h m).2 = 0) : mb12 h m = true ∧ (mt12 h m).1 = mx12 h m := by
  unfold mt12 at e ⊢
  cases hb : mb12 h m
  · rw [hb] at e; cases e
  · exact ⟨rfl, rfl⟩
theorem mt_no12 {h : Hp} {m : Int} (e : (mt12 h m).2 ≠ 0) : mt12 h m = (mt0, 120) := by
  unfold mt12 at e ⊢
  cases hb : mb12 h m
  · rfl
  · rw [hb] at e; exact absurd rfl e
theorem may_parts12 {h : Hp} {c : Int} (e : may12 h c = true) : mayB h = true ∧ (sls12 h c).length = 22 ∧ (mt12 h (sl12 h c 3)).2 = 0 ∧ (obAt h c).cls = 12 ∧ 0 ≤ refI h.objs.length (sl12 h c 0) ∧ 0 ≤ refI h.objs.length (sl12 h c 5) ∧
    0 ≤ sm12 (sl12 h c 1) ((cm12 h c).code.length - 1) ∧ (cm12 h c).temps ≤ sp12 h c := by
  unfold may12 at e
  simp only [Bool.and_eq_true, decide_eq_true_eq] at e
  obtain ⟨e1, e2, e3, e4, e5, e6, e7, e8⟩ := e
  exact ⟨e1, e2, e3, e4, e5, e6, e7, e8⟩
end Go.Proofs.YtalfbdigjaibkaaGreat
