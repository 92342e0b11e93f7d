/- Roots, and objects that change places: over plain heaps. -/
import Derived.Test.YtjpibkcbgogfoaaCB
namespace Go.Proofs.Ytjpibkcbgogfoaa
open Go.RowKit
theorem bfs_nil (h : Hp) : ∀ (f i : Nat), bfs h f [] i = []
  | 0, _ => rfl
  | _ + 1, _ => rfl
theorem bfs_pre (h : Hp) : ∀ (f : Nat) (M : List Nat) (i : Nat), ∃ t, bfs h f M i = M ++ t
  | 0, M, _ => ⟨[], by rw [List.append_nil]; rfl⟩
  | f + 1, M, i => by
    unfold bfs
    split
    · rename_i q _
      obtain ⟨t, ht⟩ := meets_pre h (edges h q) M
      obtain ⟨u, hu⟩ := bfs_pre h f (meets h M (edges h q)) (i + 1)
      exact ⟨t ++ u, by rw [hu, ht, List.append_assoc]⟩
    · exact ⟨[], by rw [List.append_nil]⟩
theorem meets_none {h : Hp} : ∀ {rs : List Int} {M : List Nat}, (∀ v ∈ rs, refB h.objs.length v = false) → meets h M rs = M
  | [], _, _ => rfl
  | v :: rs, M, hv => by
    have h1 := hv v (by simp)
    rw [meets_cons, meets_none (fun u hu => hv u (List.mem_cons_of_mem _ hu))]
    unfold meetL; rw [if_neg (by rw [h1]; simp)]
theorem ordN_none {h : Hp} {rs : List Int} (hv : ∀ v ∈ rs, refB h.objs.length v = false) : ordN h rs = [] := by
  unfold ordN; rw [meets_none hv, bfs_nil]
theorem ordN_nil (h : Hp) : ordN h [] = [] := ordN_none fun v hv => by simp at hv
/-- the first root that is a ref is met first -/
theorem ordN_first {h : Hp} {l m : List Int} {v : Int} (hl : ∀ u ∈ l, refB h.objs.length u = false) (hv : refB h.objs.length v = true) : ∃ t, ordN h (l ++ v :: m) = (atV v).toNat :: t := by
  have h1 : meetL h [] v = [(atV v).toNat] := by unfold meetL; rw [if_pos ⟨hv, by simp⟩]; rfl
  obtain ⟨t, ht⟩ := meets_pre h m [(atV v).toNat]
  obtain ⟨u, hu⟩ := bfs_pre h h.objs.length (meets h [] (l ++ v :: m)) 0
  refine ⟨t ++ u, ?_⟩
  unfold ordN
  rw [hu, meets_append, meets_none hl, meets_cons, h1, ht]; rfl
theorem cn_first {h : Hp} {l m : List Int} {v : Int} (hl : ∀ u ∈ l, refB h.objs.length u = false) (hv : refB h.objs.length v = true) : cnV h (ordN h (l ++ v :: m)) v = 0 := by
  obtain ⟨t, ht⟩ := ordN_first hl hv (m := m)
  rw [cn_ref hv, ht]; simp
theorem cn_some {h : Hp} {rs : List Int} (e : liE h rs = 0) : 0 < (cnH h rs).objs.length ↔ ∃ v ∈ rs, refB h.objs.length v = true := by
  rw [cn_len e]
  constructor
  · intro g
    by_cases k : ∃ v ∈ rs, refB h.objs.length v = true
    · exact k
    · rw [ordN_none fun v hv => by
        cases hr : refB h.objs.length v
        · rfl
        · exact absurd ⟨v, hv, hr⟩ k] at g
      simp at g
  · rintro ⟨v, hv, hr⟩
    exact List.length_pos_of_mem (mem_ordN.2 (.root v hv hr))
/-! ### Objects that change places -/
/-- each number below n stands once -/
def PermL (pm : List Int) (n : Nat) : Prop := pm.length = n ∧ ∀ i, i < n → (i : Int) ∈ pm
def rnV (n : Nat) (pm : List Int) (v : Int) : Int := if refB n v = true then 2 * pm.getD (atV v).toNat 0 else v
def rnO (n : Nat) (pm : List Int) (o : Ob) : Ob := { o with cls := rnV n pm o.cls, slots := o.slots.map (rnV n pm) }
structure Ren (h g : Hp) (pm : List Int) : Prop where
  perm : PermL pm h.objs.length
  len : g.objs.length = h.objs.length
  cap : g.cap = h.cap
  last : g.last = h.last
  at_ : ∀ i x, h.objs[i]? = some x → g.objs[(pm.getD i 0).toNat]? = some (rnO h.objs.length pm x)
theorem count_one : ∀ (n : Nat) (pm : List Int), pm.length ≤ n → (∀ i, i < n → (i : Int) ∈ pm) → pm.Nodup ∧ ∀ v ∈ pm, 0 ≤ v ∧ v < n
  | 0, pm, hl, _ => by
    obtain rfl : pm = [] := List.eq_nil_of_length_eq_zero (by omega)
    exact ⟨List.nodup_nil, fun v hv => by simp at hv⟩
  | n + 1, pm, hl, hi => by
    have hm := hi n (by omega)
    have hlen : (pm.erase (n : Int)).length = pm.length - 1 := List.length_erase_of_mem hm
    have hp : 0 < pm.length := List.length_pos_of_mem hm
    have h1 : ∀ i, i < n → (i : Int) ∈ pm.erase (n : Int) := fun i hin => (List.mem_erase_of_ne (by omega)).2 (hi i (by omega))
    obtain ⟨a, b⟩ := count_one n (pm.erase (n : Int)) (by omega) h1
    have hperm := List.perm_cons_erase hm
    have hno : (n : Int) ∉ pm.erase (n : Int) := fun hx => by have := b _ hx; omega
    refine ⟨hperm.nodup_iff.2 (List.nodup_cons.2 ⟨hno, a⟩), fun v hv => ?_⟩
    rcases List.mem_cons.1 (hperm.mem_iff.1 hv) with g | g
    · omega
    · have := b v g; omega
section
variable {h g : Hp} {pm : List Int} {rs : List Int}
theorem Ren.ones (r : Ren h g pm) : pm.Nodup ∧ ∀ v ∈ pm, 0 ≤ v ∧ v < h.objs.length := count_one _ pm (Nat.le_of_eq r.perm.1) r.perm.2
theorem Ren.to_at (r : Ren h g pm) {i : Nat} (hi : i < h.objs.length) : ∃ k : Nat, k < h.objs.length ∧ pm[i]? = some (k : Int) ∧ pm.getD i 0 = k := by
  have hl : i < pm.length := by rw [r.perm.1]; exact hi
  have := r.ones.2 _ (List.getElem_mem hl)
  refine ⟨pm[i].toNat, by omega, ?_, ?_⟩
  · rw [List.getElem?_eq_getElem hl]; congr 1; omega
  · rw [List.getD_eq_getElem?_getD, List.getElem?_eq_getElem hl]; show pm[i] = _; omega
theorem Ren.val (r : Ren h g pm) (h256 : h.objs.length ≤ 256) {v : Int} (_hv : hasB h.objs.length v = true) : ValR h g (fun i k => pm[i]? = some (k : Int)) v (rnV h.objs.length pm v) := by
  cases hr : refB h.objs.length v
  · have : rnV h.objs.length pm v = v := by unfold rnV; rw [if_neg (by rw [hr]; decide)]
    rw [this]
    exact .inl ⟨hr, by rw [r.len]; exact hr, rfl⟩
  · obtain ⟨k, hk, h1, h2⟩ := r.to_at (refB_nat hr).1
    have : rnV h.objs.length pm v = 2 * (k : Int) := by unfold rnV; rw [if_pos hr, h2]
    rw [this]
    obtain ⟨r1, r2⟩ := ref_two (n := g.objs.length) (by rw [r.len]; exact h256) (by rw [r.len]; exact hk)
    refine .inr ⟨hr, r1, ?_⟩
    show pm[(atV v).toNat]? = _
    rw [r2]; exact h1
theorem Ren.has (r : Ren h g pm) (h256 : h.objs.length ≤ 256) {v : Int} (hv : hasB h.objs.length v = true) : hasB g.objs.length (rnV h.objs.length pm v) = true ∧ refB g.objs.length (rnV h.objs.length pm v) = refB h.objs.length v := by
  rcases r.val h256 hv with ⟨h1, h2, h3⟩ | ⟨h1, h2, -⟩
  · rw [h1, h2]
    refine ⟨?_, rfl⟩
    rw [← h3]
    unfold hasB; rw [has_not hv h1]; rfl
  · rw [h1, h2]
    exact ⟨by unfold hasB; rw [h2, Bool.or_true], rfl⟩
theorem kiB_rn (n : Nat) (pm : List Int) (o : Ob) : kiB (rnO n pm o) = kiB o := by
  obtain ⟨cl, ki, sl, te, bi, ha⟩ := o
  cases sl with
  | nil => rfl
  | cons a l =>
    unfold kiB
    simp only [rnO, List.map_cons, List.length_cons, List.length_map]
    rfl
theorem Ren.back (r : Ren h g pm) {k : Nat} {y : Ob} (hy : g.objs[k]? = some y) : ∃ (i : Nat) (x : Ob), h.objs[i]? = some x ∧ y = rnO h.objs.length pm x := by
  have hk : k < g.objs.length := (List.getElem?_eq_some_iff.1 hy).1
  obtain ⟨i, hi, hx⟩ := List.getElem_of_mem (r.perm.2 k (by rw [← r.len]; exact hk))
  have hin : i < h.objs.length := by rw [← r.perm.1]; exact hi
  refine ⟨i, _, List.getElem?_eq_getElem hin, ?_⟩
  have := r.at_ i _ (List.getElem?_eq_getElem hin)
  have hd : pm.getD i 0 = (k : Int) := by rw [List.getD_eq_getElem?_getD, List.getElem?_eq_getElem hi]; exact hx
  rw [hd] at this
  exact Option.some.inj (hy.symm.trans this)
theorem Ren.may (r : Ren h g pm) (hm : mayB h = true) : mayB g = true := by
  have h256 := may_len hm
  have hall : ∀ o ∈ g.objs, obB g.objs.length o = true := fun o ho => by
    obtain ⟨k, hk⟩ := List.mem_iff_getElem?.1 ho
    obtain ⟨i, x, hx, rfl⟩ := r.back hk
    have hob := may_all hm _ (List.mem_of_getElem? hx)
    obtain ⟨h1, h2⟩ := ob_vals hob
    unfold obB at hob ⊢
    simp only [Bool.and_eq_true] at hob ⊢
    obtain ⟨⟨⟨-, hh⟩, hk⟩, -⟩ := hob
    refine ⟨⟨⟨?_, hh⟩, ?_⟩, ?_⟩
    · have := (r.has h256 (ref_has h1)).2
      rw [h1] at this
      exact this
    · rw [kiB_rn]; exact hk
    · refine List.all_eq_true.2 fun y hy => ?_
      obtain ⟨v, hv, rfl⟩ := List.mem_map.1 hy
      exact (r.has h256 (h2 v hv)).1
  unfold mayB at hm ⊢
  rw [r.cap, r.last, r.len]
  rw [r.len] at hall
  simp only [Bool.and_eq_true] at hm ⊢
  exact ⟨hm.1, List.all_eq_true.2 hall⟩
theorem Ren.liE (r : Ren h g pm) (e : liE h rs = 0) : Go.Proofs.Ytjpibkcbgogfoaa.liE g (rs.map (rnV h.objs.length pm)) = 0 := by
  obtain ⟨hm, hv, -⟩ := li_ok e
  unfold Go.Proofs.Ytjpibkcbgogfoaa.liE
  rw [if_pos (r.may hm), if_pos]
  refine List.all_eq_true.2 fun y hy => ?_
  obtain ⟨v, hv', rfl⟩ := List.mem_map.1 hy
  exact (r.has (may_len hm) (hv v hv')).1
/-- a heap whose objects have changed places is the same -/
theorem Ren.same (r : Ren h g pm) (e : Go.Proofs.Ytjpibkcbgogfoaa.liE h rs = 0) : SameP h rs g (rs.map (rnV h.objs.length pm)) := by
  obtain ⟨hm, hv, -⟩ := li_ok e
  have h256 := may_len hm
  refine ⟨e, r.liE e, fun i k => pm[i]? = some (k : Int), all2_map fun v hv' => r.val h256 (hv v hv'), fun i k x y hr hx hy => ?_, fun i k l hk hl => ?_, fun i j k hi hj => ?_⟩
  · have h1 := r.at_ i x hx
    have hd : pm.getD i 0 = (k : Int) := by rw [List.getD_eq_getElem?_getD, hr]; rfl
    rw [hd] at h1
    obtain rfl : y = rnO h.objs.length pm x := Option.some.inj (hy.symm.trans h1)
    obtain ⟨o1, o2⟩ := ob_vals (may_all hm _ (List.mem_of_getElem? hx))
    exact ⟨r.val h256 (ref_has o1), rfl, all2_map fun v hv' => r.val h256 (o2 v hv'), rfl, rfl, rfl⟩
  · have := Option.some.inj (hk.symm.trans hl); omega
  · obtain ⟨h1, h2⟩ := List.getElem?_eq_some_iff.1 hi
    obtain ⟨h3, h4⟩ := List.getElem?_eq_some_iff.1 hj
    rw [← r.ones.1.idxOf_getElem i h1, ← r.ones.1.idxOf_getElem j h3, h2, h4]
theorem Ren.told (r : Ren h g pm) (e : Go.Proofs.Ytjpibkcbgogfoaa.liE h rs = 0) : cnH g (rs.map (rnV h.objs.length pm)) = cnH h rs ∧ cnL g (rs.map (rnV h.objs.length pm)) = cnL h rs := by
  obtain ⟨h1, h2⟩ := same_told (r.same e)
  have c1 := cn_caps e
  have c2 := cn_caps (r.liE e)
  rw [r.cap, r.last] at c2
  refine ⟨?_, h2.symm⟩
  cases hc : cnH g (rs.map (rnV h.objs.length pm)) with
  | mk os cp la =>
    rw [hc] at h1 c2
    cases hd : cnH h rs with
    | mk os' cp' la' =>
      rw [hd] at h1 c1
      simp only at h1 c1 c2
      rw [h1, c1.1, c1.2, c2.1, c2.2]
end
end Go.Proofs.Ytjpibkcbgogfoaa
