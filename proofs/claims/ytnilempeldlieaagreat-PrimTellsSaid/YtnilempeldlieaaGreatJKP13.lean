/- Plain mathematics of primitives: two that have become each other; whole numbers; bytes written; new objects; what is told of floats is canonical; whatever primitive is done, what is told of it. No program is walked here. -/
import Derived.Test.YtnilempeldlieaaGreatJ10
import Derived.Test.YtnilempeldlieaaGreatJ15
import Derived.Test.YtnilempeldlieaaGreatJ05
import Derived.Test.YtnilempeldlieaaGreatJ06
import Derived.Test.YtnilempeldlieaaGreatJ08
import Derived.Test.YtnilempeldlieaaGreatJFLU
import Derived.Test.YtnilempeldlieaaGreatJPK13

namespace Go.Proofs.YtnilempeldlieaaGreat
open Go.RowKit Flt
theorem ref_has13 {n : Nat} {v : Int} (h : refB n v = true) : hasB n v = true := by unfold hasB; rw [h, Bool.or_true]
end Go.Proofs.YtnilempeldlieaaGreat
namespace Go.Proofs.YtnilempeldlieaaGreat
open Go.RowKit Flt
theorem sm_num13 {x : Int} (h : smB x = true) : nB (2 * x + 1) = true ∧ nV (2 * x + 1) = x ∧ ∀ n, hasB n (2 * x + 1) = true := by
  have e : (2 * x + 1) / 2 = x := by omega
  have hb : nB (2 * x + 1) = true := by
    unfold nB
    rw [e, odB_iff.2 (by omega), h]; rfl
  exact ⟨hb, by unfold nV; rw [if_pos hb, e], fun n => by unfold hasB; rw [hb]; rfl⟩
end Go.Proofs.YtnilempeldlieaaGreat
namespace Go.Proofs.YtnilempeldlieaaGreat
open Go.RowKit
theorem setT_size (t : ByteArray) (j : Nat) (x : Int) : (setT t j x).size = t.size := by
  show (setT t j x).data.size = t.data.size
  unfold setT
  simp
structure PlacedT (h : Hp) (v k : Int) : Prop where
  may : mayB h = true
  ref : refB h.objs.length v = true
  kind : (obAt h v).kind = 1
  lo : 0 ≤ k
  hi : k.toNat < (obAt h v).text.size
theorem placedT {h : Hp} {v k : Int} (e : plE h v 1 k = 0) : PlacedT h v k := by
  obtain ⟨h1, h2, h3, h4, h5⟩ := pl_ok e
  refine ⟨h1, h2, h3, h4, ?_⟩
  unfold szO at h5
  rw [if_pos rfl] at h5
  omega
theorem sbH_put (h : Hp) (v k x : Int) : sbH h v k x = putO h (atV v).toNat { obAt h v with text := setT (obAt h v).text k.toNat x } := rfl
theorem sbH_len (h : Hp) (v k x : Int) : (sbH h v k x).objs.length = h.objs.length := putO_len _ _ _
theorem text_ob {n : Nat} {o : Ob} (h : obB n o = true) (hk : o.kind = 1) {t : ByteArray} (ht : t.size = o.text.size) : obB n { o with text := t } = true := by
  unfold obB at h ⊢
  simp only [Bool.and_eq_true] at h ⊢
  obtain ⟨⟨⟨h1, h2⟩, h3⟩, h4⟩ := h
  refine ⟨⟨⟨h1, h2⟩, ?_⟩, h4⟩
  unfold kiB at h3 ⊢
  have k0 : ¬ o.kind = 0 := by omega
  rw [if_neg k0, if_pos hk] at h3
  rw [if_neg k0, if_pos hk]
  simpa [ht] using h3
theorem sb_may {h : Hp} {v k x : Int} (p : PlacedT h v k) : mayB (sbH h v k x) = true := by
  rw [sbH_put]
  exact putO_may p.may (text_ob (may_all p.may _ (ob_mem p.ref)) p.kind (setT_size _ _ _))
end Go.Proofs.YtnilempeldlieaaGreat
namespace Go.Proofs.YtnilempeldlieaaGreat
open Go.RowKit
theorem refB_mono {n m : Nat} {v : Int} (h : refB n v = true) (l : n ≤ m) : refB m v = true := by
  unfold refB at h ⊢
  simp only [Bool.and_eq_true, decide_eq_true_eq] at h ⊢
  exact ⟨h.1, by omega⟩
theorem hasB_mono {n m : Nat} {v : Int} (h : hasB n v = true) (l : n ≤ m) : hasB m v = true := by
  unfold hasB at h ⊢
  simp only [Bool.or_eq_true] at h ⊢
  rcases h with h | h
  · exact .inl h
  · exact .inr (refB_mono h l)
theorem obB_mono {n m : Nat} {o : Ob} (h : obB n o = true) (l : n ≤ m) : obB m o = true := by
  unfold obB at h ⊢
  simp only [Bool.and_eq_true] at h ⊢
  obtain ⟨⟨⟨h1, h2⟩, h3⟩, h4⟩ := h
  exact ⟨⟨⟨refB_mono h1 l, h2⟩, h3⟩, List.all_eq_true.2 fun x hx => hasB_mono (List.all_eq_true.1 h4 x hx) l⟩
theorem refB_zero {n : Nat} (h : 0 < n) : refB n 0 = true := by
  have h0 : atV 0 = 0 := by decide +kernel
  have h1 : atB 0 = true := by decide +kernel
  unfold refB
  rw [h0, h1]
  simpa using h
theorem hasB_zero {n : Nat} (h : 0 < n) : hasB n 0 = true := by unfold hasB; rw [refB_zero h]; simp
theorem haB_next (v : Int) : haB (nxI v) = true := by
  unfold nxI haB
  split
  · exact decide_eq_true (by omega)
  · decide
end Go.Proofs.YtnilempeldlieaaGreat
namespace Go.Proofs.YtnilempeldlieaaGreat
open Flt
namespace Flt
theorem canon_le {a : Int} (h : rg a ≤ infR) : canon a = a := by unfold canon; rw [if_neg (by omega)]
theorem canon_nan : canon theNaN = theNaN := by decide
theorem canon_rnd (K : Nat) (n : Bool) (N D : Nat) : canon (rnd K n N D) = rnd K n N D := by
  apply canon_le; unfold rnd; rw [rg_sg _ (min_lt _)]; omega
theorem exK : ∃ K : Nat, 2400 ≤ K := ⟨2400, Nat.le_refl _⟩

def Canonical (x : Int) : Prop := x = theNaN ∨ rg x ≤ infR
theorem Canonical.eq {x : Int} (h : Canonical x) : canon x = x := by
  rcases h with h | h
  · rw [h]; exact canon_nan
  · exact canon_le h
theorem cn_nan : Canonical theNaN := .inl rfl
theorem cn_rnd (K : Nat) (n : Bool) (N D : Nat) : Canonical (rnd K n N D) := .inr (by unfold rnd; rw [rg_sg _ (min_lt _)]; omega)
theorem cn_inf (n : Bool) : Canonical (sg n infR) := .inr (by rw [rg_sg _ (by decide)]; exact Nat.le_refl _)
theorem cn_zero (n : Bool) : Canonical (sg n 0) := .inr (by rw [rg_sg _ (by omega)]; exact Nat.zero_le _)
theorem fAdd_canon {a b : Int} (ha : In64 a) (hb : In64 b) : canon (fAdd a b) = fAdd a b := by
  obtain ⟨K, hK⟩ := exK
  apply Canonical.eq
  rw [fAdd_eq ha hb (K := K) (by omega)]
  unfold mAdd
  repeat' split
  all_goals first | exact cn_nan | exact cn_rnd _ _ _ _ | exact cn_zero _ | exact .inr (by omega)
theorem fSub_canon {a b : Int} (ha : In64 a) (hb : In64 b) : canon (fSub a b) = fSub a b := by
  rw [fSub_eq hb]
  by_cases h : infR < rg b
  · rw [if_pos h]; exact canon_nan
  · rw [if_neg h]; exact fAdd_canon ha (in_opp b)
theorem fMul_canon {a b : Int} (ha : In64 a) (hb : In64 b) : canon (fMul a b) = fMul a b := by
  obtain ⟨K, hK⟩ := exK
  apply Canonical.eq
  rw [fMul_eq ha hb (K := K) (by omega)]
  unfold mMul
  repeat' split
  all_goals first | exact cn_nan | exact cn_rnd _ _ _ _ | exact cn_inf _
theorem fDiv_canon {a b : Int} (ha : In64 a) (hb : In64 b) : canon (fDiv a b) = fDiv a b := by
  obtain ⟨K, hK⟩ := exK
  apply Canonical.eq
  rw [fDiv_eq ha hb (K := K) (by omega)]
  unfold mDiv
  repeat' split
  all_goals first | exact cn_nan | exact cn_rnd _ _ _ _ | exact cn_inf _ | exact cn_zero _

theorem fOp0 (a b : Int) : fOp 0 a b = fAdd a b := by unfold fOp; rw [if_pos rfl]
theorem fOp1 (a b : Int) : fOp 1 a b = fSub a b := by unfold fOp; rw [if_neg (by decide), if_pos rfl]
theorem fOp2 (a b : Int) : fOp 2 a b = fMul a b := by unfold fOp; rw [if_neg (by decide), if_neg (by decide), if_pos rfl]
theorem fOp3 (a b : Int) : fOp 3 a b = fDiv a b := by unfold fOp; rw [if_neg (by decide), if_neg (by decide), if_neg (by decide), if_pos rfl]
theorem canon_fOp {a b : Int} (ha : In64 a) (hb : In64 b) (d : Int) : canon (fOp d a b) = fOp d a b := by
  by_cases h0 : d = 0
  · subst h0; rw [fOp0]; exact fAdd_canon ha hb
  by_cases h1 : d = 1
  · subst h1; rw [fOp1]; exact fSub_canon ha hb
  by_cases h2 : d = 2
  · subst h2; rw [fOp2]; exact fMul_canon ha hb
  by_cases h3 : d = 3
  · subst h3; rw [fOp3]; exact fDiv_canon ha hb
  · have : fOp d a b = theNaN := by unfold fOp; rw [if_neg h0, if_neg h1, if_neg h2, if_neg h3]
    rw [this]; exact canon_nan
theorem canon_fOf (n : Int) : canon (fOf n) = fOf n := by
  unfold fOf
  split
  · exact canon_nan
  · obtain ⟨K, hK⟩ := exK
    rw [ofInt_eq n (K := K) (by omega)]
    exact canon_rnd _ _ _ _
end Flt
end Go.Proofs.YtnilempeldlieaaGreat
namespace Go.Proofs.YtnilempeldlieaaGreat
open Go.RowKit Flt
structure Good13 (h : Hp) (r : Rs) : Prop where
  bad : r.2.2 ≠ 0 → r = (h, 0, 130) ∨ r = (h, 0, 30) ∧ (h.objs.length : Int) = h.cap
  may : r.2.2 = 0 → mayB r.1 = true
  has : r.2.2 = 0 → hasB r.1.objs.length r.2.1 = true
  len : r.2.2 = 0 → r.1.objs.length = h.objs.length ∨ r.1.objs.length = h.objs.length + 1
  cap : r.2.2 = 0 → r.1.cap = h.cap
theorem no130 : ¬ (130 : Int) = 0 := by decide
theorem no30 : ¬ (30 : Int) = 0 := by decide
theorem good_fa (h : Hp) : Good13 h (fa13 h) := ⟨fun _ => .inl rfl, fun e => absurd e no130, fun e => absurd e no130, fun e => absurd e no130, fun e => absurd e no130⟩
theorem good_full {h : Hp} (e : (h.objs.length : Int) = h.cap) : Good13 h (h, 0, 30) := ⟨fun _ => .inr ⟨rfl, e⟩, fun e => absurd e no30, fun e => absurd e no30, fun e => absurd e no30, fun e => absurd e no30⟩
theorem good_ok {h g : Hp} {v : Int} (hm : mayB g = true) (hv : hasB g.objs.length v = true) (hl : g.objs.length = h.objs.length ∨ g.objs.length = h.objs.length + 1) (hc : g.cap = h.cap) : Good13 h (g, v, 0) := ⟨fun e => absurd rfl e, fun _ => hm, fun _ => hv, fun _ => hl, fun _ => hc⟩
theorem good_same {h : Hp} (hm : mayB h = true) {v : Int} (hv : hasB h.objs.length v = true) : Good13 h (h, v, 0) := good_ok hm hv (.inl rfl) rfl
theorem good_if {h : Hp} {p : Prop} [Decidable p] {a b : Rs} (ha : p → Good13 h a) (hb : ¬ p → Good13 h b) : Good13 h (if p then a else b) := by
  split
  · exact ha ‹_›
  · exact hb ‹_›
theorem good_in {h : Hp} (hm : mayB h = true) (n : Int) : Good13 h (in13 h n) := by
  unfold in13
  exact good_if (fun e => good_same hm ((sm_num13 e).2.2 _)) (fun _ => good_fa h)
theorem has_small13 {n : Nat} (hl : 12 ≤ n) {k : Nat} (hk : k < 12) : hasB n (2 * (k : Int)) = true := by
  refine ref_has13 ?_
  unfold refB
  have h1 : atB (2 * (k : Int)) = true := atB_iff.2 (by omega)
  have h2 : atV (2 * (k : Int)) = k := by unfold atV; rw [if_pos h1]; omega
  rw [h1, h2]
  simp; omega
theorem good_tr {h : Hp} (hm : mayB h = true) (hl : 12 ≤ h.objs.length) (b : Bool) : Good13 h (tr13 h b) := by
  cases b
  · exact good_same hm (has_small13 hl (k := 2) (by decide))
  · exact good_same hm (has_small13 hl (k := 1) (by decide))
theorem good_wh {h : Hp} (hm : mayB h = true) (hl : 12 ≤ h.objs.length) (num s a : Int) : Good13 h (wh13 h num s a) := by
  unfold wh13
  repeat (first | exact good_fa h | exact good_in hm _ | exact good_tr hm hl _ | refine good_if (fun _ => ?_) (fun _ => ?_))
theorem set_zero13 {h : Hp} {s k x : Int} (e : setE h s k x = 0) : plE h s 0 k = 0 ∧ hasB h.objs.length x = true := by
  by_cases z : plE h s 0 k = 0
  · refine ⟨z, ?_⟩
    unfold setE at e
    rw [if_pos z] at e
    split at e
    · assumption
    · cases e
  · unfold setE at e; rw [if_neg z] at e; exact absurd e z
theorem good_set {h : Hp} {s k x : Int} (e : setE h s k x = 0) : Good13 h (setR h s k x, x, 0) := by
  obtain ⟨z, hx⟩ := set_zero13 e
  rw [show setR h s k x = setH h s k x by unfold setR; rw [if_pos e]]
  exact good_ok (set_may (placed z) hx) (by rw [setH_len]; exact hx) (.inl (setH_len _ _ _ _)) rfl
theorem num_has13 {n : Nat} {v : Int} (h : nB v = true) : hasB n v = true := by unfold hasB; rw [h]; rfl
theorem good_sb {h : Hp} {s k x v : Int} (hv : nB v = true) (e : sbE h s k x = 0) : Good13 h (sbR h s k x, v, 0) := by
  have z : plE h s 1 k = 0 := by
    by_cases z : plE h s 1 k = 0
    · exact z
    · unfold sbE at e; rw [if_neg z] at e; exact absurd e z
  rw [show sbR h s k x = sbH h s k x by unfold sbR; rw [if_pos e]]
  exact good_ok (sb_may (placedT z)) (num_has13 hv) (.inl (sbH_len _ _ _ _)) rfl
theorem good_pa {h : Hp} (hm : mayB h = true) (num s a b : Int) : Good13 h (pa13 h num s a b) := by
  unfold pa13
  refine good_if (fun _ => good_if (fun _ => good_fa h) fun _ => good_in hm _) fun _ => good_if (fun _ => good_fa h) fun _ => good_if (fun _ => ?_) fun _ => good_if (fun _ => ?_) fun _ => good_if (fun _ => ?_) fun _ => ?_
  · exact good_if (fun _ => good_fa h) fun e => good_same hm (geV_has (Decidable.not_not.1 e))
  · exact good_if (fun _ => good_fa h) fun e => good_set (Decidable.not_not.1 e)
  · exact good_if (fun _ => good_fa h) fun _ => good_in hm _
  · refine good_if (fun _ => good_fa h) fun e => good_sb ?_ ?_
    · cases g : nB b
      · exact absurd (.inl g) e
      · rfl
    · exact Decidable.not_not.1 fun g => e (.inr g)
theorem newO_ok13 {h : Hp} {cl kind size : Int} (hr : refB (h.objs.length + 1) cl = true) (k0 : 0 ≤ kind) (k2 : kind < 3) (s0 : 0 ≤ size) (s1 : size ≤ mostI kind) : obB (h.objs.length + 1) (newO h cl kind size) = true := by
  obtain ⟨n, rfl⟩ : ∃ n : Nat, size = n := ⟨size.toNat, by omega⟩
  have hz := hasB_zero (n := h.objs.length + 1) (by omega)
  have hn := haB_next h.last
  have z := zeroT_size n
  rcases (show kind = 0 ∨ kind = 1 ∨ kind = 2 by omega) with rfl | rfl | rfl
  · have : (n : Int) ≤ 64 := s1
    unfold obB kiB newO blankO
    simp [hr, hn, hz]
    omega
  · have : (n : Int) ≤ 64 := s1
    unfold obB kiB newO blankO
    simp [hr, hn, z]
    omega
  · obtain rfl : n = 0 := by have : (n : Int) ≤ 0 := s1; omega
    unfold obB kiB newO blankO
    simp [hr, hn]
    try decide +kernel
theorem more_may13 {h : Hp} (hm : mayB h = true) (hc : (h.objs.length : Int) < h.cap) {o : Ob} (ho : obB (h.objs.length + 1) o = true) : mayB ⟨h.objs ++ [o], h.cap, nxI h.last⟩ = true := by
  have ha := may_all hm
  unfold mayB at hm ⊢
  simp only [Bool.and_eq_true, decide_eq_true_eq] at hm ⊢
  have hl : (h.objs ++ [o]).length = h.objs.length + 1 := by simp
  rw [hl]
  obtain ⟨⟨⟨h1, h2, h3⟩, h4⟩, h5⟩ := hm
  refine ⟨⟨⟨h1, h2, by omega⟩, haB_next _⟩, List.all_eq_true.2 fun p hp => ?_⟩
  rcases List.mem_append.1 hp with g | g
  · exact obB_mono (ha p g) (by omega)
  · obtain rfl : p = o := by simpa using g
    exact ho
theorem ro_full13 {h : Hp} {cl kind size : Int} (hm : mayB h = true) (e : roE h cl kind size = 30) : (h.objs.length : Int) = h.cap := by
  have h3 : (h.objs.length : Int) ≤ h.cap := by
    unfold mayB at hm
    simp only [Bool.and_eq_true, decide_eq_true_eq] at hm
    exact hm.1.1.2.2
  unfold roE at e
  rw [if_neg (by rw [hm]; decide)] at e
  split at e
  · cases e
  · split at e
    · cases e
    · split at e
      · cases e
      · split at e
        · omega
        · cases e
theorem last_has13 {n : Nat} (h : n ≤ 256) : hasB (n + 1) (2 * (n : Int)) = true := by
  refine ref_has13 ?_
  unfold refB
  have h1 : atB (2 * (n : Int)) = true := atB_iff.2 (by omega)
  have h2 : atV (2 * (n : Int)) = n := by unfold atV; rw [if_pos h1]; omega
  rw [h1, h2]
  simp; omega
theorem good_al {h : Hp} (hm : mayB h = true) (cl kind size : Int) : Good13 h (al13 h cl kind size) := by
  unfold al13
  refine good_if (fun e => ?_) fun _ => good_if (fun e => good_full (ro_full13 hm e)) fun _ => good_fa h
  obtain ⟨-, hr, k0, k1, s0, s1, hc⟩ := ro_ok e
  rw [show alR h cl kind size = alH h cl kind size by unfold alR; rw [if_pos e], show alV h cl kind size = 2 * (h.objs.length : Int) by unfold alV; rw [if_pos e]]
  have hl : (alH h cl kind size).objs.length = h.objs.length + 1 := by unfold alH; simp
  exact good_ok (more_may13 hm hc (newO_ok13 (refB_mono hr (by omega)) k0 k1 s0 s1)) (by rw [hl]; exact last_has13 (may_len hm)) (.inr hl) rfl
theorem good_nf {h : Hp} (hm : mayB h = true) {bits : Int} (hb : canon bits = bits) : Good13 h (nf13 h bits) := by
  unfold nf13
  refine good_if (fun e => ?_) fun _ => good_if (fun e => good_full (ro_full13 hm e)) fun _ => good_fa h
  obtain ⟨-, hr, k0, k1, s0, s1, hc⟩ := ro_ok e
  have hl : (nfH13 h bits).objs.length = h.objs.length + 1 := by unfold nfH13; simp
  refine good_ok (more_may13 hm hc ?_) (by rw [hl]; exact last_has13 (may_len hm)) (.inr hl) rfl
  have ho := newO_ok13 (refB_mono (m := h.objs.length + 1) hr (by omega)) k0 k1 s0 s1
  unfold obB kiB newO blankO at ho ⊢
  simp at ho ⊢
  simp [ho, hb]
theorem good_fr {h : Hp} (hm : mayB h = true) (num s a : Int) : Good13 h (fr13 h num s a) := by
  unfold fr13
  repeat (first | exact good_fa h | exact good_al hm _ _ _ | refine good_if (fun _ => ?_) (fun _ => ?_))
theorem cls_has13 {h : Hp} (hm : mayB h = true) {v : Int} (hr : refB h.objs.length v = true) : hasB h.objs.length (obAt h v).cls = true := by
  have ho := may_all hm _ (ob_mem hr)
  unfold obB at ho
  simp only [Bool.and_eq_true] at ho
  exact ref_has13 ho.1.1.1
theorem good_id {h : Hp} (hm : mayB h = true) (hl : 12 ≤ h.objs.length) {num s a : Int} (hs : hasB h.objs.length s = true) (ha : hasB h.objs.length a = true) : Good13 h (id13 h num s a) := by
  unfold id13
  refine good_if (fun _ => good_same hm ?_) fun _ => good_if (fun _ => good_tr hm hl _) fun _ => good_if (fun _ => good_if (fun _ => good_same hm hs) fun _ => good_in hm _) fun _ => good_if (fun _ => good_fa h) fun e => ?_
  · unfold lf9
    rw [if_neg (by rw [hm]; decide)]
    split
    · exact has_small13 hl (k := 3) (by decide)
    · split
      · rename_i g
        exact cls_has13 hm g
      · exact hasB_zero (by omega)
  · have no : ∀ {v : Int}, hasB h.objs.length v = true → atB v ≠ false → refB h.objs.length v = true := fun {v} hv ht => by
      have ht : atB v = true := by simpa using ht
      unfold hasB at hv
      cases g : refB h.objs.length v
      · rw [g, Bool.or_false] at hv
        have := nB_iff.1 hv
        have := atB_iff.1 ht
        omega
      · rfl
    have rs := no hs fun g => e (.inl g)
    have ra := no ha fun g => e (.inr (.inr (.inl g)))
    rw [(be_ok hm rs ra).2]
    exact good_ok (sw_may hm rs ra) (by rw [swH_len]; exact hs) (.inl (swH_len _ _ _)) rfl
theorem fl_canon13 {h : Hp} (hm : mayB h = true) {v x : Int} (hv : hasB h.objs.length v = true) (e : fl13 h v = some x) : canon x = x := by
  cases hn : nB v
  · rw [fl_ref13 hn] at e
    split at e
    · rename_i hk
      injection e with e
      have ho := may_all hm _ (ob_mem (has_ref13 hv hn))
      have hk2 := ob_kind ho
      unfold kiB at hk2
      rw [if_neg (by omega), if_neg (by omega), if_pos hk] at hk2
      simp only [Bool.and_eq_true, beq_iff_eq] at hk2
      rw [← e]; exact hk2.2.symm
    · cases e
  · unfold fl13 at e
    rw [if_pos hn] at e
    injection e with e
    rw [← e]; exact canon_fOf _
theorem good_ff {h : Hp} (hm : mayB h = true) (hl : 12 ≤ h.objs.length) (wd : ∀ o ∈ h.objs, In64 o.bits) {num s a : Int} (hs : hasB h.objs.length s = true) (ha : hasB h.objs.length a = true) : Good13 h (ff13 h num s a) := by
  unfold ff13
  cases es : fl13 h s with
  | none => exact good_fa h
  | some x =>
    refine good_if (fun _ => good_if (fun _ => good_in hm _) fun _ => good_fa h) fun _ => good_if (fun _ => good_nf hm (fl_canon13 hm hs es)) fun _ => ?_
    cases ea : fl13 h a with
    | none => exact good_fa h
    | some y => exact good_if (fun _ => good_tr hm hl _) fun _ => good_if (fun _ => good_tr hm hl _) fun _ => good_nf hm (canon_fOp (fl_in13 wd hs es) (fl_in13 wd ha ea) _)
theorem getD_has13 {n : Nat} (hn : 0 < n) {l : List Int} (h : l.all (hasB n) = true) (k : Nat) : hasB n (l.getD k 0) = true := by
  rw [List.getD_eq_getElem?_getD]
  by_cases g : k < l.length
  · rw [List.getElem?_eq_getElem g]
    exact List.all_eq_true.1 h _ (List.getElem_mem g)
  · rw [List.getElem?_eq_none (by omega)]
    exact hasB_zero hn
theorem keeps13 {h : Hp} {num s : Int} {args : List Int} (hm : mayB h = true) (hl : 12 ≤ h.objs.length) (wd : ∀ o ∈ h.objs, In64 o.bits) : do13 h num s args = (⟨[], 0, 0⟩, 0, 1) ∨ Good13 h (do13 h num s args) := by
  unfold do13
  split
  · exact .inl rfl
  · rename_i g
    right
    have hs : hasB h.objs.length s = true := by simpa using fun e => g (.inr (.inr (.inl e)))
    have ha : args.all (hasB h.objs.length) = true := by
      cases e : args.all (hasB h.objs.length)
      · exact absurd (.inr (.inr (.inr e))) g
      · rfl
    refine good_if (fun _ => good_fa h) fun _ => ?_
    have h0 := getD_has13 (by omega) ha 0
    unfold pr13
    exact good_if (fun _ => good_wh hm hl _ _ _) fun _ => good_if (fun _ => good_pa hm _ _ _ _) fun _ => good_if (fun _ => good_fr hm _ _ _) fun _ => good_if (fun _ => good_id hm hl hs h0) fun _ => good_ff hm hl wd hs h0
end Go.Proofs.YtnilempeldlieaaGreat
