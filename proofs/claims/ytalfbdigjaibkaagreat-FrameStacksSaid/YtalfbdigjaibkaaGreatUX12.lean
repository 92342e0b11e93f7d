/- Values pushed onto a context, and popped, in plain mathematics. -/
import Derived.Test.YtalfbdigjaibkaaGreatUM12
namespace Go.Proofs.YtalfbdigjaibkaaGreat
open Go.RowKit
set_option maxRecDepth 100000
/-- the slots of a context onto which k values of l have been pushed -/
structure Lv12 (h : Hp) (c : Int) (l : List Int) (k : Nat) (L : List Int) : Prop where
  len : L.length = 22
  all : L.all (hasB h.objs.length) = true
  two : L.getD 2 0 = 2 * (sp12 h c + k) + 1
  old : ∀ j : Nat, j ≠ 2 → (j : Int) < 6 + sp12 h c → L.getD j 0 = sl12 h c j
  new : ∀ j : Nat, j < k → L.getD (6 + (sp12 h c).toNat + j) 0 = l.getD j 0
  top : sp12 h c + k ≤ 16
  kl : k ≤ l.length
/-- slots that are a context's, but for what does not count, from i on -/
structure Cl12 (h : Hp) (c : Int) (i : Nat) (L : List Int) : Prop where
  len : L.length = 22
  all : L.all (hasB h.objs.length) = true
  old : ∀ j : Nat, j < i → L.getD j 0 = sl12 h c j
theorem ctx_of12 {h : Hp} {c : Int} (e : may12 h c = true) {L : List Int} (hl : L.length = 22) (hall : L.all (hasB h.objs.length) = true) (ho : ∀ j : Nat, j ≠ 2 → j < 6 → L.getD j 0 = sl12 h c j) {s : Int} (h2 : L.getD 2 0 = 2 * s + 1) (h0 : (cm12 h c).temps ≤ s) (h1 : s ≤ 16) :
    may12 (pt12 h c L) c = true ∧ (cm12 (pt12 h c L) c).temps = (cm12 h c).temps ∧ sls12 (pt12 h c L) c = L ∧ sp12 (pt12 h c L) c = s := by
  have t0 := (temps_sp12 e).2.2
  have s2 : sm12 (L.getD 2 0) 16 = s := by rw [h2]; exact sm_odd12 (by omega) h1 (by decide)
  have p7 := (may_parts12 e).2.2.2.2.2.2.1
  obtain ⟨q1, q2, -, q4⟩ := pt_ctx12 e hl hall (ho 0 (by decide) (by decide)) (ho 3 (by decide) (by decide)) (ho 5 (by decide) (by decide)) (by rw [ho 1 (by decide) (by decide)]; exact p7) (by rw [s2]; exact h0)
  refine ⟨q1, q2, q4, ?_⟩
  unfold sp12 sl12
  rw [q4, s2]
theorem lv_ctx12 {h : Hp} {c : Int} {l L : List Int} {k : Nat} (e : may12 h c = true) (v : Lv12 h c l k L) :
    may12 (pt12 h c L) c = true ∧ (cm12 (pt12 h c L) c).temps = (cm12 h c).temps ∧ sls12 (pt12 h c L) c = L ∧ sp12 (pt12 h c L) c = sp12 h c + k := by
  obtain ⟨t1, t2, t3⟩ := temps_sp12 e
  exact ctx_of12 e v.len v.all (fun j h2 h6 => v.old j h2 (by omega)) v.two (by omega) v.top
theorem lv_zero12 {h : Hp} {c : Int} {l : List Int} (e : may12 h c = true) : Lv12 h c l 0 (sls12 h c) ∧ pt12 h c (sls12 h c) = h := by
  obtain ⟨hr, h22, hm⟩ := ctx_ref12 e
  obtain ⟨hk, hs, hall⟩ := ctx_all12 e
  obtain ⟨t1, t2, t3⟩ := temps_sp12 e
  refine ⟨⟨ctx_len12 e, hall, ?_, fun j _ _ => rfl, fun j hj => absurd hj (by omega), by omega, Nat.zero_le _⟩, by rw [hs]; exact pt_same12 hr⟩
  have := odd_sm12 (v := sl12 h c 2) (b := 16) (by show 0 ≤ sp12 h c; omega)
  show sl12 h c 2 = _
  rw [← this]
  show 2 * sp12 h c + 1 = _
  simp
theorem two_sets12 {h : Hp} {c x y : Int} {L : List Int} {i : Nat} (e : may12 h c = true) (eG : may12 (pt12 h c L) c = true) (eS : sls12 (pt12 h c L) c = L) (hx : hasB h.objs.length x = true) (hi : i < 22) (eG1 : may12 (pt12 h c (L.set i x)) c = true) (eS1 : sls12 (pt12 h c (L.set i x)) c = L.set i x) (hy : hasB h.objs.length y = true) :
    setR (setR (pt12 h c L) c i x) c 2 y = pt12 h c ((L.set i x).set 2 y) := by
  obtain ⟨hr, -, -⟩ := ctx_ref12 e
  have r1 := setR_pt12 (k := i) eG (by rw [pt_len12]; exact hx) hi
  rw [r1, eS, pt_pt12 hr]
  have r2 := setR_pt12 (k := 2) eG1 (by rw [pt_len12]; exact hy) (by decide)
  rw [show setR (pt12 h c (L.set i x)) c 2 y = _ from r2, eS1, pt_pt12 hr]
theorem lv_push12 {h : Hp} {c : Int} {l L : List Int} {k : Nat} (e : may12 h c = true) (v : Lv12 h c l k L) (hk : k < l.length) (hp : (pu12 (pt12 h c L) c (l.getD k 0)).2 = 0) :
    ∃ L', (pu12 (pt12 h c L) c (l.getD k 0)).1 = pt12 h c L' ∧ Lv12 h c l (k + 1) L' := by
  obtain ⟨q1, q2, q3, q4⟩ := lv_ctx12 e v
  obtain ⟨t1, t2, t3⟩ := temps_sp12 e
  obtain ⟨x, hx⟩ : ∃ x, x = l.getD k 0 := ⟨_, rfl⟩
  rw [← hx] at hp ⊢
  unfold pu12 at hp ⊢
  rw [if_neg (by rw [q1]; decide)] at hp ⊢
  by_cases hb : hasB (pt12 h c L).objs.length x = false
  · rw [if_pos hb] at hp; cases hp
  rw [if_neg hb] at hp ⊢
  by_cases h16 : sp12 (pt12 h c L) c = 16
  · rw [if_pos h16] at hp; cases hp
  rw [if_neg h16]
  rw [q4] at h16 ⊢
  have hxb : hasB h.objs.length x = true := by rw [pt_len12] at hb; simpa using hb
  obtain ⟨i, hi⟩ : ∃ i : Nat, i = 6 + (sp12 h c).toNat + k := ⟨_, rfl⟩
  have hiI : 6 + (sp12 h c + (k : Int)) = (i : Int) := by omega
  have top := v.top
  have hi22 : i < 22 := by omega
  have hlen := v.len
  have hg1 : ∀ j, (L.set i x).getD j 0 = if j = i then x else L.getD j 0 := fun j => getD_set12 _ _ _ _ (by omega)
  have hall1 := all_set12 v.all hxb i
  have c1 := ctx_of12 e (L := L.set i x) (by simpa using hlen) hall1 (fun j h2 h6 => by rw [hg1, if_neg (by omega)]; exact v.old j h2 (by omega)) (s := sp12 h c + k) (by rw [hg1, if_neg (by omega)]; exact v.two) (by omega) top
  have hy : hasB h.objs.length (2 * (sp12 h c + (k : Int)) + 3) = true := by
    have := odd_has12 (n := h.objs.length) (v := sp12 h c + k + 1) (by omega) (by omega)
    rwa [show 2 * (sp12 h c + (k : Int) + 1) + 1 = 2 * (sp12 h c + (k : Int)) + 3 by omega] at this
  refine ⟨(L.set i x).set 2 (2 * (sp12 h c + (k : Int)) + 3), ?_, ?_⟩
  · rw [hiI]
    exact two_sets12 e q1 q3 hxb hi22 c1.1 c1.2.2.1 hy
  · have hg2 : ∀ j, ((L.set i x).set 2 (2 * (sp12 h c + (k : Int)) + 3)).getD j 0 = if j = 2 then 2 * (sp12 h c + (k : Int)) + 3 else if j = i then x else L.getD j 0 := fun j => by
      rw [getD_set12 _ _ _ _ (by rw [List.length_set]; omega), hg1]
    refine ⟨by simpa using hlen, all_set12 hall1 hy 2, ?_, fun j h2 h6 => ?_, fun j hj => ?_, by omega, hk⟩
    · rw [hg2, if_pos rfl]; omega
    · rw [hg2, if_neg h2, if_neg (by omega)]; exact v.old j h2 h6
    · rw [hg2, if_neg (by omega)]
      by_cases ej : j = k
      · rw [if_pos (by omega), ej, hx]
      · rw [if_neg (by omega)]; exact v.new j (by omega)
theorem lv_pop12 {h : Hp} {c : Int} {l L : List Int} {k : Nat} (e : may12 h c = true) (v : Lv12 h c l (k + 1) L) :
    ∃ L', po12 (pt12 h c L) c = (pt12 h c L', l.getD k 0, 0) ∧ Lv12 h c l k L' := by
  obtain ⟨q1, q2, q3, q4⟩ := lv_ctx12 e v
  obtain ⟨t1, t2, t3⟩ := temps_sp12 e
  have top := v.top
  have hlen := v.len
  have hx : hasB h.objs.length 0 = true := nil_has12 e
  obtain ⟨i, hi⟩ : ∃ i : Nat, i = 6 + (sp12 h c).toNat + k := ⟨_, rfl⟩
  have hiI : 5 + (sp12 h c + ((k + 1 : Nat) : Int)) = (i : Int) := by omega
  have hi22 : i < 22 := by omega
  have hg1 : ∀ j, (L.set i 0).getD j 0 = if j = i then 0 else L.getD j 0 := fun j => getD_set12 _ _ _ _ (by omega)
  have hall1 := all_set12 v.all hx i
  have c1 := ctx_of12 e (L := L.set i 0) (by simpa using hlen) hall1 (fun j h2 h6 => by rw [hg1, if_neg (by omega)]; exact v.old j h2 (by omega)) (s := sp12 h c + ((k + 1 : Nat) : Int)) (by rw [hg1, if_neg (by omega)]; exact v.two) (by omega) top
  have hy : hasB h.objs.length (2 * (sp12 h c + ((k + 1 : Nat) : Int)) - 1) = true := by
    have := odd_has12 (n := h.objs.length) (v := sp12 h c + k) (by omega) (by omega)
    rwa [show 2 * (sp12 h c + (k : Int)) + 1 = 2 * (sp12 h c + ((k + 1 : Nat) : Int)) - 1 by omega] at this
  refine ⟨(L.set i 0).set 2 (2 * (sp12 h c + ((k + 1 : Nat) : Int)) - 1), ?_, ?_⟩
  · unfold po12
    rw [if_neg (by rw [q1]; decide), if_neg (by rw [q2, q4]; omega), q4, hiI, two_sets12 e q1 q3 hx hi22 c1.1 c1.2.2.1 hy]
    have : sl12 (pt12 h c L) c ((i : Nat) : Int).toNat = l.getD k 0 := by
      unfold sl12
      rw [q3, Int.toNat_natCast, hi]
      exact v.new k (Nat.lt_succ_self k)
    rw [this]
  · have hg2 : ∀ j, ((L.set i 0).set 2 (2 * (sp12 h c + ((k + 1 : Nat) : Int)) - 1)).getD j 0 = if j = 2 then 2 * (sp12 h c + ((k + 1 : Nat) : Int)) - 1 else if j = i then 0 else L.getD j 0 := fun j => by
      rw [getD_set12 _ _ _ _ (by rw [List.length_set]; omega), hg1]
    have hkl := v.kl
    refine ⟨by simpa using hlen, all_set12 hall1 hy 2, ?_, fun j h2 h6 => ?_, fun j hj => ?_, by omega, by omega⟩
    · rw [hg2, if_pos rfl]; omega
    · rw [hg2, if_neg h2, if_neg (by omega)]; exact v.old j h2 h6
    · rw [hg2, if_neg (by omega), if_neg (by omega)]; exact v.new j (by omega)
theorem lv_temp12 {h : Hp} {c : Int} {l L : List Int} {k : Nat} (e : may12 h c = true) (v : Lv12 h c l k L) : te12 (pt12 h c L) c 0 = te12 h c 0 := by
  obtain ⟨q1, q2, q3, q4⟩ := lv_ctx12 e v
  obtain ⟨t1, t2, t3⟩ := temps_sp12 e
  unfold te12
  rw [q1, e, q2]
  by_cases ht : (0 : Int) < 0 ∨ (cm12 h c).temps ≤ 0
  · rw [if_pos ht, if_pos ht]
  · rw [if_neg ht, if_neg ht]
    have : sl12 (pt12 h c L) c (6 + 0 : Int).toNat = sl12 h c (6 + 0 : Int).toNat := by
      show (sls12 (pt12 h c L) c).getD 6 0 = sl12 h c 6
      rw [q3]
      exact v.old 6 (by decide) (by omega)
    rw [this]
theorem te_ok12 {h : Hp} {c : Int} (e : may12 h c = true) : decide ((te12 h c 0).2 = 0) = decide (0 < (cm12 h c).temps) := by
  unfold te12
  rw [if_neg (by rw [e]; decide)]
  by_cases ht : (0 : Int) < 0 ∨ (cm12 h c).temps ≤ 0
  · rw [if_pos ht, decide_eq_false (p := 0 < _) (by omega)]; rfl
  · rw [if_neg ht, decide_eq_true (p := 0 < _) (by omega)]; rfl
theorem lv_cl12 {h : Hp} {c : Int} {l L : List Int} (e : may12 h c = true) (v : Lv12 h c l 0 L) : Cl12 h c (6 + (sp12 h c).toNat) L := by
  obtain ⟨t1, t2, t3⟩ := temps_sp12 e
  refine ⟨v.len, v.all, fun j hj => ?_⟩
  by_cases h2 : j = 2
  · subst h2
    have h0 : 0 ≤ sp12 h c := by omega
    have := odd_sm12 (v := sl12 h c 2) (b := 16) h0
    rw [v.two, ← this]
    show 2 * (sp12 h c + (0 : Nat)) + 1 = 2 * sp12 h c + 1
    simp
  · exact v.old j h2 (by omega)
theorem cl_may12 {h : Hp} {c : Int} {L : List Int} {i : Nat} (e : may12 h c = true) (v : Cl12 h c i L) (hi : 6 ≤ i) : may12 (pt12 h c L) c = true ∧ sls12 (pt12 h c L) c = L := by
  obtain ⟨t1, t2, t3⟩ := temps_sp12 e
  have h0 : 0 ≤ sp12 h c := by omega
  have := odd_sm12 (v := sl12 h c 2) (b := 16) h0
  have r := ctx_of12 e v.len v.all (fun j _ h6 => v.old j (by omega)) (s := sp12 h c) (by rw [v.old 2 (by omega), ← this]; rfl) t1 t2
  exact ⟨r.1, r.2.2.1⟩
theorem cl_step12 {h : Hp} {c : Int} {L : List Int} {i : Nat} (e : may12 h c = true) (v : Cl12 h c i L) (hi : 6 ≤ i) (h22 : i < 22) :
    setE (pt12 h c L) c i (sl12 h c i) = 0 ∧ setR (pt12 h c L) c i (sl12 h c i) = pt12 h c (L.set i (sl12 h c i)) ∧ Cl12 h c (i + 1) (L.set i (sl12 h c i)) := by
  obtain ⟨q1, q2⟩ := cl_may12 e v hi
  obtain ⟨hr, -, -⟩ := ctx_ref12 e
  obtain ⟨-, -, hall⟩ := ctx_all12 e
  have hl := ctx_len12 e
  have hx : hasB h.objs.length (sl12 h c i) = true := by
    unfold sl12
    rw [List.getD_eq_getElem?_getD, List.getElem?_eq_getElem (by omega)]
    exact List.all_eq_true.1 hall _ (List.getElem_mem _)
  have hlen := v.len
  refine ⟨set_ok12 q1 (by rw [pt_len12]; exact hx) (by omega) (by omega), ?_, ?_⟩
  · rw [setR_pt12 q1 (by rw [pt_len12]; exact hx) h22, q2, pt_pt12 hr]
  · refine ⟨by simpa using hlen, all_set12 v.all hx i, fun j hj => ?_⟩
    rw [getD_set12 _ _ _ _ (by omega)]
    by_cases ej : j = i
    · rw [if_pos ej, ej]
    · rw [if_neg ej]; exact v.old j (by omega)
theorem cl_end12 {h : Hp} {c : Int} {L : List Int} (e : may12 h c = true) (v : Cl12 h c 22 L) : pt12 h c L = h := by
  have hl := ctx_len12 e
  have hlen := v.len
  have : L = sls12 h c := by
    refine List.ext_getElem (by omega) fun j h1 h2 => ?_
    have := v.old j (by omega)
    unfold sl12 at this
    rwa [List.getD_eq_getElem?_getD, List.getD_eq_getElem?_getD, List.getElem?_eq_getElem h1, List.getElem?_eq_getElem h2] at this
  rw [this]
  exact (lv_zero12 (l := []) e).2
end Go.Proofs.YtalfbdigjaibkaaGreat
