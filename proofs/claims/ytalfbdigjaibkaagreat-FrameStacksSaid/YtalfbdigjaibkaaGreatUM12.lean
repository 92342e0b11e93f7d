/- A context's slots, written: what else of the heap stays as it was, in plain mathematics. -/
import Derived.Test.YtalfbdigjaibkaaGreatTR12
import Derived.Test.YtalfbdigjaibkaaGreatUN12
namespace Go.Proofs.YtalfbdigjaibkaaGreat
open Go.RowKit
set_option maxRecDepth 100000
/-- the heap, in which the object of c has other slots -/
def pt12 (h : Hp) (c : Int) (L : List Int) : Hp := putO h (atV c).toNat { obAt h c with slots := L }
theorem pt_len12 (h : Hp) (c : Int) (L : List Int) : (pt12 h c L).objs.length = h.objs.length := putO_len ..
theorem pt_self12 {h : Hp} {c : Int} (hr : refB h.objs.length c = true) (L : List Int) : obAt (pt12 h c L) c = { obAt h c with slots := L } := by
  unfold pt12; rw [obAt_put hr hr, if_pos rfl]
theorem pt_other12 {h : Hp} {c v : Int} (hr : refB h.objs.length c = true) (hv : refB h.objs.length v = true) (hne : v ≠ c) (L : List Int) : obAt (pt12 h c L) v = obAt h v := by
  unfold pt12; rw [obAt_put hr hv, if_neg hne]
theorem pt_kd12 {h : Hp} {c : Int} (hr : refB h.objs.length c = true) (L : List Int) (v k : Int) : kd12 (pt12 h c L) v k = kd12 h v k := by
  unfold kd12
  rw [pt_len12]
  cases hv : refB h.objs.length v
  · rfl
  · by_cases e : v = c
    · subst e; rw [pt_self12 hr]
    · rw [pt_other12 hr hv e]
theorem pt_text12 (h : Hp) (c : Int) (L : List Int) (v : Int) : (obAt (pt12 h c L) v).text = (obAt h v).text := by
  unfold pt12 putO obAt
  rw [List.getD_eq_getElem?_getD, List.getD_eq_getElem?_getD, List.getD_eq_getElem?_getD]
  show ((h.objs.set _ _)[(atV v).toNat]?.getD default).text = _
  rw [List.getElem?_set]
  by_cases e : (atV c).toNat = (atV v).toNat
  · rw [if_pos e]
    by_cases hl : (atV c).toNat < h.objs.length
    · rw [if_pos hl, ← e]; rfl
    · rw [if_neg hl, List.getElem?_eq_none (by omega)]
  · rw [if_neg e]
theorem pt_sls12 {h : Hp} {c : Int} (hr : refB h.objs.length c = true) (hk : (obAt h c).kind = 0) (L : List Int) (v : Int) : sls12 (pt12 h c L) v = if v = c then L else sls12 h v := by
  unfold sls12
  rw [pt_kd12 hr]
  by_cases e : v = c
  · subst e
    rw [if_pos (kd_is12 hr hk), pt_self12 hr, if_pos rfl]
  · rw [if_neg e]
    cases hkd : kd12 h v 0
    · rfl
    · rw [pt_other12 hr (kd_ref12 hkd).1 e]
theorem pt_may12 {h : Hp} {c : Int} (hm : mayB h = true) (hr : refB h.objs.length c = true) (hk : (obAt h c).kind = 0) {L : List Int} (hl : L.length ≤ 64) (hall : L.all (hasB h.objs.length) = true) : mayB (pt12 h c L) = true := by
  obtain ⟨i, hi, -, ho⟩ := obAt_get hr
  have hob := may_all hm _ (List.mem_of_getElem? ho)
  unfold obB at hob
  simp only [Bool.and_eq_true] at hob
  obtain ⟨⟨⟨h1, h2⟩, h3⟩, -⟩ := hob
  refine putO_may hm ?_
  unfold obB
  simp only [Bool.and_eq_true]
  refine ⟨⟨⟨h1, h2⟩, ?_⟩, hall⟩
  unfold kiB at h3 ⊢
  rw [if_pos hk] at h3
  rw [if_pos hk]
  simp only [Bool.and_eq_true, decide_eq_true_eq] at h3 ⊢
  exact ⟨⟨by omega, h3.1.2⟩, h3.2⟩
/-- a method stays one, but for its literals, which may be that object's slots -/
theorem pt_mt12 {h : Hp} {c : Int} (hr : refB h.objs.length c = true) (hk : (obAt h c).kind = 0) (h22 : (sls12 h c).length = 22) {L : List Int} (hl : L.length = 22) (hm : mayB h = true) (hm2 : mayB (pt12 h c L) = true) {v : Int} (h5 : (sls12 h v).length = 5) :
    (mt12 (pt12 h c L) v).2 = (mt12 h v).2 ∧ (mt12 (pt12 h c L) v).1.temps = (mt12 h v).1.temps ∧ (mt12 (pt12 h c L) v).1.code = (mt12 h v).1.code ∧ (mt12 (pt12 h c L) v).1.args = (mt12 h v).1.args := by
  have hne : v ≠ c := fun e => by rw [e] at h5; omega
  have e1 : sls12 (pt12 h c L) v = sls12 h v := by rw [pt_sls12 hr hk, if_neg hne]
  have e2 : ∀ j, sl12 (pt12 h c L) v j = sl12 h v j := fun j => by unfold sl12; rw [e1]
  have e3 : cd12 (pt12 h c L) v = cd12 h v := by unfold cd12; rw [e2, pt_text12]
  have e4 : ∀ u, (sls12 (pt12 h c L) u).length = (sls12 h u).length := fun u => by
    rw [pt_sls12 hr hk]
    by_cases e : u = c
    · rw [if_pos e, e, hl, h22]
    · rw [if_neg e]
  have e5 : (mx12 (pt12 h c L) v).prim = (mx12 h v).prim ∧ (mx12 (pt12 h c L) v).args = (mx12 h v).args ∧ (mx12 (pt12 h c L) v).temps = (mx12 h v).temps ∧ (mx12 (pt12 h c L) v).code = (mx12 h v).code ∧ (mx12 (pt12 h c L) v).lits.length = (mx12 h v).lits.length := by
    unfold mx12
    simp only [e2, e3]
    exact ⟨trivial, trivial, trivial, trivial, e4 _⟩
  have e6 : mb12 (pt12 h c L) v = mb12 h v := by
    unfold mb12
    rw [hm, hm2, e1, e2, e2, pt_kd12 hr, pt_kd12 hr, e3, e5.1, e5.2.1, e5.2.2.1, e5.2.2.2.1, e5.2.2.2.2]
  unfold mt12
  rw [e6]
  cases mb12 h v
  · exact ⟨rfl, rfl, rfl, rfl⟩
  · exact ⟨rfl, e5.2.2.1, e5.2.2.2.1, e5.2.1⟩
theorem ctx_all12 {h : Hp} {c : Int} (e : may12 h c = true) : (obAt h c).kind = 0 ∧ sls12 h c = (obAt h c).slots ∧ (sls12 h c).all (hasB h.objs.length) = true := by
  obtain ⟨hr, h22, hm⟩ := ctx_ref12 e
  have hk := kind_zero12 hm hr (by omega)
  have hs := sls_ref12 hm hr
  obtain ⟨i, hi, -, ho⟩ := obAt_get hr
  have hob := may_all hm _ (List.mem_of_getElem? ho)
  unfold obB at hob
  simp only [Bool.and_eq_true] at hob
  exact ⟨hk, hs, by rw [hs]; exact hob.2⟩
theorem meth_five12 {h : Hp} {c : Int} (e : may12 h c = true) : (sls12 h (sl12 h c 3)).length = 5 := (mb_parts12 (mt_ok12 (may_parts12 e).2.2.1).1).2.1
/-- a context stays one -/
theorem pt_ctx12 {h : Hp} {c : Int} (e : may12 h c = true) {L : List Int} (hl : L.length = 22) (hall : L.all (hasB h.objs.length) = true) (l0 : L.getD 0 0 = sl12 h c 0) (l3 : L.getD 3 0 = sl12 h c 3) (l5 : L.getD 5 0 = sl12 h c 5)
    (l1 : 0 ≤ sm12 (L.getD 1 0) ((cm12 h c).code.length - 1)) (l2 : (cm12 h c).temps ≤ sm12 (L.getD 2 0) 16) :
    may12 (pt12 h c L) c = true ∧ (cm12 (pt12 h c L) c).temps = (cm12 h c).temps ∧ (cm12 (pt12 h c L) c).code = (cm12 h c).code ∧ sls12 (pt12 h c L) c = L := by
  obtain ⟨hr, h22, hm⟩ := ctx_ref12 e
  obtain ⟨hk, hs, -⟩ := ctx_all12 e
  have h22' := ctx_len12 e
  have hm2 := pt_may12 hm hr hk (by omega) hall
  have es : sls12 (pt12 h c L) c = L := by rw [pt_sls12 hr hk, if_pos rfl]
  have ej : ∀ j, sl12 (pt12 h c L) c j = L.getD j 0 := fun j => by unfold sl12; rw [es]
  obtain ⟨-, -, p3, p4, p5, p6, -, -⟩ := may_parts12 e
  obtain ⟨m1, m2, m3, -⟩ := pt_mt12 hr hk h22' hl hm hm2 (meth_five12 e)
  have ec : cm12 (pt12 h c L) c = (mt12 (pt12 h c L) (sl12 h c 3)).1 := by unfold cm12; rw [ej, l3]
  have et : (cm12 (pt12 h c L) c).temps = (cm12 h c).temps := by rw [ec, m2]; rfl
  have eo : (cm12 (pt12 h c L) c).code = (cm12 h c).code := by rw [ec, m3]; rfl
  refine ⟨?_, et, eo, es⟩
  have hcl : (obAt (pt12 h c L) c).cls = 12 := by rw [pt_self12 hr]; exact p4
  have q3 : (mt12 (pt12 h c L) (sl12 (pt12 h c L) c 3)).2 = 0 := by rw [ej, l3, m1]; exact p3
  have q0 : 0 ≤ refI (pt12 h c L).objs.length (sl12 (pt12 h c L) c 0) := by rw [pt_len12, ej, l0]; exact p5
  have q5 : 0 ≤ refI (pt12 h c L).objs.length (sl12 (pt12 h c L) c 5) := by rw [pt_len12, ej, l5]; exact p6
  have q1 : 0 ≤ sm12 (sl12 (pt12 h c L) c 1) ((cm12 (pt12 h c L) c).code.length - 1) := by rw [ej, eo]; exact l1
  have q2 : (cm12 (pt12 h c L) c).temps ≤ sm12 (sl12 (pt12 h c L) c 2) 16 := by rw [ej, et]; exact l2
  unfold may12
  rw [hm2, es, hl, hcl]
  simp [q3, q0, q5, q1, q2]
theorem pt_pt12 {h : Hp} {c : Int} (hr : refB h.objs.length c = true) (L K : List Int) : pt12 (pt12 h c L) c K = pt12 h c K := by
  have e := pt_self12 hr L
  unfold pt12 at e ⊢
  rw [e]
  unfold putO
  simp only [List.set_set]
theorem pt_same12 {h : Hp} {c : Int} (hr : refB h.objs.length c = true) : pt12 h c (obAt h c).slots = h := by
  have e := putO_back hr (obAt h c)
  unfold pt12
  have e2 : putO (putO h (atV c).toNat (obAt h c)) (atV c).toNat (obAt h c) = putO h (atV c).toNat (obAt h c) := by unfold putO; simp only [List.set_set]
  exact e2.symm.trans e
theorem setR_pt12 {h : Hp} {c x : Int} {k : Nat} (e : may12 h c = true) (hx : hasB h.objs.length x = true) (hk : k < 22) : setR h c k x = pt12 h c ((sls12 h c).set k x) := by
  have E := set_ok12 e hx (k := k) (by omega) (by omega)
  unfold setR
  rw [if_pos E, setH_put, (ctx_all12 e).2.1]; rfl
theorem all_set12 {n : Nat} {l : List Int} {x : Int} (h : l.all (hasB n) = true) (hx : hasB n x = true) (k : Nat) : (l.set k x).all (hasB n) = true := by
  refine List.all_eq_true.2 fun z hz => ?_
  rcases List.mem_or_eq_of_mem_set hz with h1 | h1
  · exact List.all_eq_true.1 h z h1
  · rw [h1]; exact hx
theorem getD_set12 (l : List Int) (k j : Nat) (x : Int) (hk : k < l.length) : (l.set k x).getD j 0 = if j = k then x else l.getD j 0 := by
  rw [List.getD_eq_getElem?_getD, List.getD_eq_getElem?_getD, List.getElem?_set]
  by_cases e : k = j
  · subst e; rw [if_pos rfl, if_pos hk, if_pos rfl]; rfl
  · rw [if_neg e, if_neg (fun z => e z.symm)]
theorem odd_sm12 {v b : Int} (h : 0 ≤ sm12 v b) : 2 * sm12 v b + 1 = v := by
  unfold sm12 at h ⊢
  by_cases g : nB v = true ∧ 0 ≤ nV v ∧ nV v ≤ b
  · rw [if_pos g]
    have := nB_iff.1 g.1
    unfold nV
    rw [if_pos g.1]; omega
  · rw [if_neg g] at h; omega
/-- one goes to a place, is there, and goes back -/
theorem goes12 {h : Hp} {c ip : Int} (e : may12 h c = true) (h0 : 0 ≤ ip) (h1 : ip < ((cm12 h c).code.length : Int)) :
    (go12 h c ip).2 = 0 ∧ may12 (go12 h c ip).1 c = true ∧ at12 (go12 h c ip).1 c = (ip, (cm12 h c).code.getD ip.toNat ⟨0, 0⟩, 0) ∧ go12 (go12 h c ip).1 c (at12 h c).1 = (h, 0) := by
  obtain ⟨hr, h22, hm⟩ := ctx_ref12 e
  obtain ⟨hk, hs, hall⟩ := ctx_all12 e
  have hl := ctx_len12 e
  have hc32 : ((cm12 h c).code.length : Int) ≤ 32 := code_le12
  have hx : hasB h.objs.length (2 * ip + 1) = true := odd_has12 h0 (by omega)
  have hg : go12 h c ip = (pt12 h c ((sls12 h c).set 1 (2 * ip + 1)), 0) := by
    unfold go12
    rw [if_neg (by rw [e]; decide), if_neg (by omega)]
    have r := setR_pt12 (k := 1) e hx (by decide)
    rw [show setR h c 1 (2 * ip + 1) = _ from r]
  obtain ⟨L, hL⟩ : ∃ L, L = (sls12 h c).set 1 (2 * ip + 1) := ⟨_, rfl⟩
  have hLj : ∀ j, L.getD j 0 = if j = 1 then 2 * ip + 1 else sl12 h c j := fun j => by rw [hL]; exact getD_set12 _ 1 j _ (by omega)
  have p8 := (may_parts12 e).2.2.2.2.2.2.2
  have p7 := (may_parts12 e).2.2.2.2.2.2.1
  obtain ⟨q1, q2, q3, q4⟩ := pt_ctx12 e (L := L) (by rw [hL]; simpa using hl) (by rw [hL]; exact all_set12 hall hx 1) (by rw [hLj]; rfl) (by rw [hLj]; rfl) (by rw [hLj]; rfl) (by rw [hLj, if_pos rfl, sm_odd12 h0 (by omega) (by omega)]; exact h0) (by rw [hLj]; exact p8)
  rw [← hL] at hg
  rw [hg]
  refine ⟨rfl, q1, ?_, ?_⟩
  · have s1 : sl12 (pt12 h c L) c 1 = 2 * ip + 1 := by unfold sl12; rw [q4, hLj, if_pos rfl]
    unfold at12
    show (if may12 (pt12 h c L) c = false then _ else _) = _
    rw [if_neg (by rw [q1]; decide), s1, sm_odd12 h0 (by omega) (by decide), q3]
  · have ho : (at12 h c).1 = sm12 (sl12 h c 1) 64 := by unfold at12; rw [if_neg (by rw [e]; decide)]
    obtain ⟨s1, s2⟩ := sm_same12 p7 (b := 64) (by omega)
    have hy := odd_sm12 p7
    have hx2 : hasB (pt12 h c L).objs.length (2 * (at12 h c).1 + 1) = true := by rw [pt_len12, ho, s1]; exact odd_has12 p7 (by omega)
    unfold go12
    show (if may12 (pt12 h c L) c = false then _ else _) = _
    rw [if_neg (by rw [q1]; decide), if_neg (by rw [q3, ho, s1]; omega)]
    have r := setR_pt12 (k := 1) q1 hx2 (by decide)
    rw [show setR (pt12 h c L) c 1 (2 * (at12 h c).1 + 1) = _ from r, q4, pt_pt12 hr, ho, s1, hy, hL, List.set_set]
    have e2 : (sls12 h c).set 1 (sl12 h c 1) = (obAt h c).slots := by
      rw [← hs]
      unfold sl12
      rw [List.getD_eq_getElem?_getD, List.getElem?_eq_getElem (by omega)]
      exact List.set_getElem_self _
    rw [e2, pt_same12 hr]
end Go.Proofs.YtalfbdigjaibkaaGreat
