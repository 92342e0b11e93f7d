/- Roots, and objects that change places: over plain heaps. The document's small parts of stage 6 in the words of the plain heaps: a place in a list, values by a list, meeting step by step, lists with each number once, objects that change places one by one. States: whether one may be, its roots, what it is collected, objects that change places, one object more: over plain states. -/
import Derived.Test.YtnilempeldlieaaM05
namespace Go.Proofs.Ytnilempeldlieaa
open Go.RowKit
theorem bfs_nil (h : Hp) : ∀ (f i : Nat), bfs h f [] i = []
  | 0, _ => rfl
  | _ + 1, _ => rfl
theorem bfs_pre (h : Hp) : ∀ (f : Nat) (M : List Nat) (i : Nat), ∃ t, bfs h f M i = M ++ t
  | 0, M, _ => ⟨[], by rw [List.append_nil]; rfl⟩
  | f + 1, M, i => by
    unfold bfs
    split
    · rename_i q _
      obtain ⟨t, ht⟩ := meets_pre h (edges h q) M
      obtain ⟨u, hu⟩ := bfs_pre h f (meets h M (edges h q)) (i + 1)
      exact ⟨t ++ u, by rw [hu, ht, List.append_assoc]⟩
    · exact ⟨[], by rw [List.append_nil]⟩
theorem meets_none {h : Hp} : ∀ {rs : List Int} {M : List Nat}, (∀ v ∈ rs, refB h.objs.length v = false) → meets h M rs = M
  | [], _, _ => rfl
  | v :: rs, M, hv => by
    have h1 := hv v (by simp)
    rw [meets_cons, meets_none (fun u hu => hv u (List.mem_cons_of_mem _ hu))]
    unfold meetL; rw [if_neg (by rw [h1]; simp)]
theorem ordN_none {h : Hp} {rs : List Int} (hv : ∀ v ∈ rs, refB h.objs.length v = false) : ordN h rs = [] := by
  unfold ordN; rw [meets_none hv, bfs_nil]
theorem ordN_nil (h : Hp) : ordN h [] = [] := ordN_none fun v hv => by simp at hv
/-- the first root that is a ref is met first -/
theorem ordN_first {h : Hp} {l m : List Int} {v : Int} (hl : ∀ u ∈ l, refB h.objs.length u = false) (hv : refB h.objs.length v = true) : ∃ t, ordN h (l ++ v :: m) = (atV v).toNat :: t := by
  have h1 : meetL h [] v = [(atV v).toNat] := by unfold meetL; rw [if_pos ⟨hv, by simp⟩]; rfl
  obtain ⟨t, ht⟩ := meets_pre h m [(atV v).toNat]
  obtain ⟨u, hu⟩ := bfs_pre h h.objs.length (meets h [] (l ++ v :: m)) 0
  refine ⟨t ++ u, ?_⟩
  unfold ordN
  rw [hu, meets_append, meets_none hl, meets_cons, h1, ht]; rfl
theorem cn_first {h : Hp} {l m : List Int} {v : Int} (hl : ∀ u ∈ l, refB h.objs.length u = false) (hv : refB h.objs.length v = true) : cnV h (ordN h (l ++ v :: m)) v = 0 := by
  obtain ⟨t, ht⟩ := ordN_first hl hv (m := m)
  rw [cn_ref hv, ht]; simp
theorem cn_some {h : Hp} {rs : List Int} (e : liE h rs = 0) : 0 < (cnH h rs).objs.length ↔ ∃ v ∈ rs, refB h.objs.length v = true := by
  rw [cn_len e]
  constructor
  · intro g
    by_cases k : ∃ v ∈ rs, refB h.objs.length v = true
    · exact k
    · rw [ordN_none fun v hv => by
        cases hr : refB h.objs.length v
        · rfl
        · exact absurd ⟨v, hv, hr⟩ k] at g
      simp at g
  · rintro ⟨v, hv, hr⟩
    exact List.length_pos_of_mem (mem_ordN.2 (.root v hv hr))
/-! ### Objects that change places -/
/-- each number below n stands once -/
def PermL (pm : List Int) (n : Nat) : Prop := pm.length = n ∧ ∀ i, i < n → (i : Int) ∈ pm
def rnV (n : Nat) (pm : List Int) (v : Int) : Int := if refB n v = true then 2 * pm.getD (atV v).toNat 0 else v
def rnO (n : Nat) (pm : List Int) (o : Ob) : Ob := { o with cls := rnV n pm o.cls, slots := o.slots.map (rnV n pm) }
structure Ren (h g : Hp) (pm : List Int) : Prop where
  perm : PermL pm h.objs.length
  len : g.objs.length = h.objs.length
  cap : g.cap = h.cap
  last : g.last = h.last
  at_ : ∀ i x, h.objs[i]? = some x → g.objs[(pm.getD i 0).toNat]? = some (rnO h.objs.length pm x)
theorem count_one : ∀ (n : Nat) (pm : List Int), pm.length ≤ n → (∀ i, i < n → (i : Int) ∈ pm) → pm.Nodup ∧ ∀ v ∈ pm, 0 ≤ v ∧ v < n
  | 0, pm, hl, _ => by
    obtain rfl : pm = [] := List.eq_nil_of_length_eq_zero (by omega)
    exact ⟨List.nodup_nil, fun v hv => by simp at hv⟩
  | n + 1, pm, hl, hi => by
    have hm := hi n (by omega)
    have hlen : (pm.erase (n : Int)).length = pm.length - 1 := List.length_erase_of_mem hm
    have hp : 0 < pm.length := List.length_pos_of_mem hm
    have h1 : ∀ i, i < n → (i : Int) ∈ pm.erase (n : Int) := fun i hin => (List.mem_erase_of_ne (by omega)).2 (hi i (by omega))
    obtain ⟨a, b⟩ := count_one n (pm.erase (n : Int)) (by omega) h1
    have hperm := List.perm_cons_erase hm
    have hno : (n : Int) ∉ pm.erase (n : Int) := fun hx => by have := b _ hx; omega
    refine ⟨hperm.nodup_iff.2 (List.nodup_cons.2 ⟨hno, a⟩), fun v hv => ?_⟩
    rcases List.mem_cons.1 (hperm.mem_iff.1 hv) with g | g
    · omega
    · have := b v g; omega
section
variable {h g : Hp} {pm : List Int} {rs : List Int}
theorem Ren.ones (r : Ren h g pm) : pm.Nodup ∧ ∀ v ∈ pm, 0 ≤ v ∧ v < h.objs.length := count_one _ pm (Nat.le_of_eq r.perm.1) r.perm.2
theorem Ren.to_at (r : Ren h g pm) {i : Nat} (hi : i < h.objs.length) : ∃ k : Nat, k < h.objs.length ∧ pm[i]? = some (k : Int) ∧ pm.getD i 0 = k := by
  have hl : i < pm.length := by rw [r.perm.1]; exact hi
  have := r.ones.2 _ (List.getElem_mem hl)
  refine ⟨pm[i].toNat, by omega, ?_, ?_⟩
  · rw [List.getElem?_eq_getElem hl]; congr 1; omega
  · rw [List.getD_eq_getElem?_getD, List.getElem?_eq_getElem hl]; show pm[i] = _; omega
theorem Ren.val (r : Ren h g pm) (h256 : h.objs.length ≤ 256) {v : Int} (_hv : hasB h.objs.length v = true) : ValR h g (fun i k => pm[i]? = some (k : Int)) v (rnV h.objs.length pm v) := by
  cases hr : refB h.objs.length v
  · have : rnV h.objs.length pm v = v := by unfold rnV; rw [if_neg (by rw [hr]; decide)]
    rw [this]
    exact .inl ⟨hr, by rw [r.len]; exact hr, rfl⟩
  · obtain ⟨k, hk, h1, h2⟩ := r.to_at (refB_nat hr).1
    have : rnV h.objs.length pm v = 2 * (k : Int) := by unfold rnV; rw [if_pos hr, h2]
    rw [this]
    obtain ⟨r1, r2⟩ := ref_two (n := g.objs.length) (by rw [r.len]; exact h256) (by rw [r.len]; exact hk)
    refine .inr ⟨hr, r1, ?_⟩
    show pm[(atV v).toNat]? = _
    rw [r2]; exact h1
theorem Ren.has (r : Ren h g pm) (h256 : h.objs.length ≤ 256) {v : Int} (hv : hasB h.objs.length v = true) : hasB g.objs.length (rnV h.objs.length pm v) = true ∧ refB g.objs.length (rnV h.objs.length pm v) = refB h.objs.length v := by
  rcases r.val h256 hv with ⟨h1, h2, h3⟩ | ⟨h1, h2, -⟩
  · rw [h1, h2]
    refine ⟨?_, rfl⟩
    rw [← h3]
    unfold hasB; rw [has_not hv h1]; rfl
  · rw [h1, h2]
    exact ⟨by unfold hasB; rw [h2, Bool.or_true], rfl⟩
theorem kiB_rn (n : Nat) (pm : List Int) (o : Ob) : kiB (rnO n pm o) = kiB o := by
  obtain ⟨cl, ki, sl, te, bi, ha⟩ := o
  cases sl with
  | nil => rfl
  | cons a l =>
    unfold kiB
    simp only [rnO, List.map_cons, List.length_cons, List.length_map]
    rfl
theorem Ren.back (r : Ren h g pm) {k : Nat} {y : Ob} (hy : g.objs[k]? = some y) : ∃ (i : Nat) (x : Ob), h.objs[i]? = some x ∧ y = rnO h.objs.length pm x := by
  have hk : k < g.objs.length := (List.getElem?_eq_some_iff.1 hy).1
  obtain ⟨i, hi, hx⟩ := List.getElem_of_mem (r.perm.2 k (by rw [← r.len]; exact hk))
  have hin : i < h.objs.length := by rw [← r.perm.1]; exact hi
  refine ⟨i, _, List.getElem?_eq_getElem hin, ?_⟩
  have := r.at_ i _ (List.getElem?_eq_getElem hin)
  have hd : pm.getD i 0 = (k : Int) := by rw [List.getD_eq_getElem?_getD, List.getElem?_eq_getElem hi]; exact hx
  rw [hd] at this
  exact Option.some.inj (hy.symm.trans this)
theorem Ren.may (r : Ren h g pm) (hm : mayB h = true) : mayB g = true := by
  have h256 := may_len hm
  have hall : ∀ o ∈ g.objs, obB g.objs.length o = true := fun o ho => by
    obtain ⟨k, hk⟩ := List.mem_iff_getElem?.1 ho
    obtain ⟨i, x, hx, rfl⟩ := r.back hk
    have hob := may_all hm _ (List.mem_of_getElem? hx)
    obtain ⟨h1, h2⟩ := ob_vals hob
    unfold obB at hob ⊢
    simp only [Bool.and_eq_true] at hob ⊢
    obtain ⟨⟨⟨-, hh⟩, hk⟩, -⟩ := hob
    refine ⟨⟨⟨?_, hh⟩, ?_⟩, ?_⟩
    · have := (r.has h256 (ref_has h1)).2
      rw [h1] at this
      exact this
    · rw [kiB_rn]; exact hk
    · refine List.all_eq_true.2 fun y hy => ?_
      obtain ⟨v, hv, rfl⟩ := List.mem_map.1 hy
      exact (r.has h256 (h2 v hv)).1
  unfold mayB at hm ⊢
  rw [r.cap, r.last, r.len]
  rw [r.len] at hall
  simp only [Bool.and_eq_true] at hm ⊢
  exact ⟨hm.1, List.all_eq_true.2 hall⟩
theorem Ren.liE (r : Ren h g pm) (e : liE h rs = 0) : Go.Proofs.Ytnilempeldlieaa.liE g (rs.map (rnV h.objs.length pm)) = 0 := by
  obtain ⟨hm, hv, -⟩ := li_ok e
  unfold Go.Proofs.Ytnilempeldlieaa.liE
  rw [if_pos (r.may hm), if_pos]
  refine List.all_eq_true.2 fun y hy => ?_
  obtain ⟨v, hv', rfl⟩ := List.mem_map.1 hy
  exact (r.has (may_len hm) (hv v hv')).1
/-- a heap whose objects have changed places is the same -/
theorem Ren.same (r : Ren h g pm) (e : Go.Proofs.Ytnilempeldlieaa.liE h rs = 0) : SameP h rs g (rs.map (rnV h.objs.length pm)) := by
  obtain ⟨hm, hv, -⟩ := li_ok e
  have h256 := may_len hm
  refine ⟨e, r.liE e, fun i k => pm[i]? = some (k : Int), all2_map fun v hv' => r.val h256 (hv v hv'), fun i k x y hr hx hy => ?_, fun i k l hk hl => ?_, fun i j k hi hj => ?_⟩
  · have h1 := r.at_ i x hx
    have hd : pm.getD i 0 = (k : Int) := by rw [List.getD_eq_getElem?_getD, hr]; rfl
    rw [hd] at h1
    obtain rfl : y = rnO h.objs.length pm x := Option.some.inj (hy.symm.trans h1)
    obtain ⟨o1, o2⟩ := ob_vals (may_all hm _ (List.mem_of_getElem? hx))
    exact ⟨r.val h256 (ref_has o1), rfl, all2_map fun v hv' => r.val h256 (o2 v hv'), rfl, rfl, rfl⟩
  · have := Option.some.inj (hk.symm.trans hl); omega
  · obtain ⟨h1, h2⟩ := List.getElem?_eq_some_iff.1 hi
    obtain ⟨h3, h4⟩ := List.getElem?_eq_some_iff.1 hj
    rw [← r.ones.1.idxOf_getElem i h1, ← r.ones.1.idxOf_getElem j h3, h2, h4]
theorem Ren.told (r : Ren h g pm) (e : Go.Proofs.Ytnilempeldlieaa.liE h rs = 0) : cnH g (rs.map (rnV h.objs.length pm)) = cnH h rs ∧ cnL g (rs.map (rnV h.objs.length pm)) = cnL h rs := by
  obtain ⟨h1, h2⟩ := same_told (r.same e)
  have c1 := cn_caps e
  have c2 := cn_caps (r.liE e)
  rw [r.cap, r.last] at c2
  refine ⟨?_, h2.symm⟩
  cases hc : cnH g (rs.map (rnV h.objs.length pm)) with
  | mk os cp la =>
    rw [hc] at h1 c2
    cases hd : cnH h rs with
    | mk os' cp' la' =>
      rw [hd] at h1 c1
      simp only at h1 c1 c2
      rw [h1, c1.1, c1.2, c2.1, c2.2]
end
end Go.Proofs.Ytnilempeldlieaa
namespace Go.Proofs.Ytnilempeldlieaa
open Go.RowKit
/-- numbers as ints -/
def iL (M : List Nat) : List Int := M.map fun (x : Nat) => (x : Int)
def plZ (L : List Int) (x : Int) : Int := if x ∈ L then (L.idxOf x : Int) else -1
theorem plZ_no {L : List Int} {x : Int} (h : x ∉ L) : plZ L x = -1 := by unfold plZ; rw [if_neg h]
theorem plZ_at {L : List Int} {x : Int} {k : Nat} (hk : k < L.length) (hn : x ∉ L.take k) (he : L[k] = x) : plZ L x = k := by
  have hm : x ∈ L := he ▸ List.getElem_mem hk
  have h1 : L.take k ++ L.drop k = L := List.take_append_drop k L
  have h2 : L.idxOf x = k := by
    rw [← h1, List.idxOf_append, if_neg hn, List.drop_eq_getElem_cons hk, he, List.idxOf_cons_self, List.length_take]
    omega
  unfold plZ; rw [if_pos hm, h2]
theorem plZ_range (L : List Int) (x : Int) : -1 ≤ plZ L x ∧ plZ L x < (L.length : Int) ∨ plZ L x = -1 := by
  unfold plZ
  split
  · rename_i h
    have := List.idxOf_lt_length_iff.2 h
    omega
  · exact .inr rfl
/-- v by a list of numbers -/
def tuV (n : Nat) (L : List Int) (v : Int) : Int := if refB n v = true then 2 * plZ L (atV v) else v
theorem idx_cast (M : List Nat) (i : Nat) : plZ (iL M) i = if i ∈ M then (M.idxOf i : Int) else -1 := by
  unfold plZ
  have h1 : ((i : Int) ∈ iL M) ↔ i ∈ M := by
    simp only [iL, List.mem_map]
    constructor
    · rintro ⟨j, hj, e⟩
      obtain rfl : j = i := by omega
      exact hj
    · exact fun h => ⟨i, h, rfl⟩
  have h2 : ∀ M : List Nat, (iL M).idxOf (i : Int) = M.idxOf i := by
    intro M
    induction M with
    | nil => rfl
    | cons a M ih =>
      show ((a : Int) :: iL M).idxOf (i : Int) = _
      rw [List.idxOf_cons, List.idxOf_cons, ih]
      have : ((a : Int) == (i : Int)) = (a == i) := by
        by_cases g : a = i
        · subst g; simp
        · have : ¬ (a : Int) = (i : Int) := by omega
          rw [beq_eq_false_iff_ne.2 g, beq_eq_false_iff_ne.2 this]
      rw [this]
  by_cases g : i ∈ M
  · rw [if_pos g, if_pos (h1.2 g), h2]
  · rw [if_neg g, if_neg fun h => g (h1.1 h)]
/-- what is met has its number -/
theorem tu_cn {h : Hp} {M : List Nat} {v : Int} (hv : refB h.objs.length v = true → (atV v).toNat ∈ M) : tuV h.objs.length (iL M) v = cnV h M v := by
  unfold tuV cnV
  cases hr : refB h.objs.length v
  · rfl
  · rw [if_pos rfl, if_pos rfl]
    conv => lhs; rw [← (refB_nat hr).2]
    rw [idx_cast, if_pos (hv hr)]
def takeG (f : Int → Int) (l : List Int) (k : Nat) : List Int := (l.take k).map f
theorem takeG_all (f : Int → Int) (l : List Int) : takeG f l l.length = l.map f := by unfold takeG; rw [List.take_length]
theorem takeG_map (f : Int → Int) (l : List Int) (k : Nat) (hk : k < l.length) : takeG f l (k + 1) = takeG f l k ++ [f l[k]] := by
  unfold takeG
  rw [List.take_succ_eq_append_getElem hk, List.map_append]; rfl
theorem cast_len (M : List Nat) : (iL M).length = M.length := List.length_map ..
/-- not met yet -/
theorem pl_new {M : List Nat} {n : Nat} {v : Int} (hr : refB n v = true) : plZ (iL M) (atV v) < 0 ↔ (atV v).toNat ∉ M := by
  have e : plZ (iL M) (atV v) = if (atV v).toNat ∈ M then (M.idxOf (atV v).toNat : Int) else -1 := by
    conv => lhs; rw [← (refB_nat hr).2]
    exact idx_cast M _
  rw [e]
  constructor
  · intro g hm
    rw [if_pos hm] at g; omega
  · intro g
    rw [if_neg g]; decide
theorem meetL_new {h : Hp} {M : List Nat} {v : Int} (hr : refB h.objs.length v = true) (hn : (atV v).toNat ∉ M) : iL (meetL h M v) = iL M ++ [atV v] := by
  unfold meetL
  rw [if_pos ⟨hr, hn⟩]
  unfold iL
  rw [List.map_append]
  show _ ++ [((atV v).toNat : Int)] = _
  rw [(refB_nat hr).2]
theorem meetL_old {h : Hp} {M : List Nat} {v : Int} (hm : refB h.objs.length v = true → (atV v).toNat ∈ M) : meetL h M v = M := by
  unfold meetL
  rw [if_neg fun c => c.2 (hm c.1)]
theorem meets_take {h : Hp} {M : List Nat} {vs : List Int} {k : Nat} (hk : k < vs.length) : meets h M (vs.take (k + 1)) = meetL h (meets h M (vs.take k)) vs[k] := by
  rw [List.take_succ_eq_append_getElem hk, meets_append]; rfl
/-- one more of those met is looked through -/
theorem bfs_step {h : Hp} {M : List Nat} {k : Nat} (hk : k < M.length) (hm : M.length ≤ h.objs.length) : bfs h (h.objs.length - k) M k = bfs h (h.objs.length - (k + 1)) (meets h M (edges h M[k])) (k + 1) := by
  obtain ⟨f, hf⟩ : ∃ f, h.objs.length - k = f + 1 := ⟨h.objs.length - k - 1, by omega⟩
  have : h.objs.length - (k + 1) = f := by omega
  rw [hf, this]
  conv => lhs; unfold bfs
  rw [List.getElem?_eq_getElem hk]
theorem bfs_end {h : Hp} {M : List Nat} (f : Nat) : bfs h f M M.length = M := by
  cases f with
  | zero => rfl
  | succ f => unfold bfs; rw [List.getElem?_eq_none (Nat.le_refl _)]
/-- what holds while those met are looked through -/
structure Goes6 (h : Hp) (rs : List Int) (M : List Nat) (k : Nat) : Prop where
  met : Met h rs M
  le : k ≤ M.length
  all : bfs h (h.objs.length - k) M k = ordN h rs
theorem Goes6.start (h : Hp) (rs : List Int) : Goes6 h rs (meets h [] rs) 0 := ⟨start_met h rs, Nat.zero_le _, rfl⟩
theorem Goes6.step {h : Hp} {rs : List Int} {M : List Nat} {k : Nat} (g : Goes6 h rs M k) (hk : k < M.length) : Goes6 h rs (meets h M (edges h M[k])) (k + 1) := by
  have hq := g.met.lt (List.getElem_mem hk)
  have ho := List.getElem?_eq_getElem hq
  have he : edges h M[k] = h.objs[M[k]].cls :: h.objs[M[k]].slots := by unfold edges; rw [ho]
  obtain ⟨t, ht⟩ := meets_pre h (edges h M[k]) M
  refine ⟨meets_met _ g.met fun v hv hr => .step _ _ v (g.met.sound _ (List.getElem_mem hk)) ho (by rw [← he]; exact hv) hr, by rw [ht, List.length_append]; omega, ?_⟩
  rw [← bfs_step hk g.met.len, g.all]
theorem Goes6.done {h : Hp} {rs : List Int} {M : List Nat} {k : Nat} (g : Goes6 h rs M k) (hk : M.length ≤ k) : M = ordN h rs := by
  obtain rfl : k = M.length := Nat.le_antisymm g.le hk
  rw [← g.all, bfs_end]
/-- of those met the first k, as they are told -/
def cnK (h : Hp) (M : List Nat) (k : Nat) : List Ob := (M.take k).map fun q => cnO h M (h.objs.getD q default)
theorem cnK_len {h : Hp} {M : List Nat} {k : Nat} (hk : k ≤ M.length) : (cnK h M k).length = k := by unfold cnK; rw [List.length_map, List.length_take]; omega
theorem cnK_succ {h : Hp} {M : List Nat} {k : Nat} (hk : k < M.length) : cnK h M (k + 1) = cnK h M k ++ [cnO h M (h.objs.getD M[k] default)] := by
  unfold cnK; rw [List.take_succ_eq_append_getElem hk, List.map_append]; rfl
theorem cnK_all {h : Hp} {rs : List Int} (e : liE h rs = 0) : cnK h (ordN h rs) (ordN h rs).length = (cnH h rs).objs := by
  unfold cnK; rw [List.take_length, cn_objs e]
theorem cnK_met {h : Hp} {rs : List Int} (e : liE h rs = 0) {k : Nat} (hk : k < (ordN h rs).length) : ∃ o, h.objs[(ordN h rs)[k]]? = some o ∧
    (∀ v ∈ o.cls :: o.slots, tuV h.objs.length (iL (ordN h rs)) v = cnV h (ordN h rs) v) ∧ cnK h (ordN h rs) (k + 1) = cnK h (ordN h rs) k ++ [cnO h (ordN h rs) o] := by
  have hq := ordN_lt (List.getElem_mem hk)
  have ho := List.getElem?_eq_getElem hq
  refine ⟨_, ho, fun v hv => tu_cn (meet_step e (List.getElem_mem hk) ho hv).2, ?_⟩
  rw [cnK_succ hk, List.getD_eq_getElem?_getD, ho]; rfl
theorem tu_roots {h : Hp} {rs : List Int} (e : liE h rs = 0) : rs.map (tuV h.objs.length (iL (ordN h rs))) = cnL h rs := by
  rw [cnL_yes e]
  exact List.map_congr_left fun v hv => tu_cn (meet_root e hv).2
/-! ### Each number once -/
def pmB (L : List Int) (n : Nat) : Bool := decide (L.length = n) && (List.range n).all fun i => decide ((i : Int) ∈ L)
theorem pmB_iff {L : List Int} {n : Nat} : pmB L n = true ↔ PermL L n := by
  unfold pmB PermL
  simp
theorem pl_in {L : List Int} {x : Int} : plZ L x < 0 ↔ x ∉ L := by
  unfold plZ
  split
  · rename_i h; constructor
    · intro g; omega
    · intro g; exact absurd h g
  · rename_i h; exact ⟨fun _ => h, fun _ => by decide⟩
/-! ### Objects that change places, one by one -/
def rnK (h : Hp) (pm : List Int) : Nat → List Ob
  | 0 => List.replicate h.objs.length default
  | k + 1 => (rnK h pm k).set (pm.getD k 0).toNat (rnO h.objs.length pm (h.objs.getD k default))
theorem rnK_len (h : Hp) (pm : List Int) : ∀ k, (rnK h pm k).length = h.objs.length
  | 0 => List.length_replicate ..
  | k + 1 => by unfold rnK; rw [List.length_set, rnK_len h pm k]
theorem perm_at {pm : List Int} {n : Nat} (P : PermL pm n) {i : Nat} (hi : i < n) : ∃ k : Nat, k < n ∧ pm.getD i 0 = k ∧ pm[i]? = some (k : Int) := by
  have hl : i < pm.length := by rw [P.1]; exact hi
  have := (count_one n pm (Nat.le_of_eq P.1) P.2).2 _ (List.getElem_mem hl)
  refine ⟨pm[i].toNat, by omega, ?_, ?_⟩
  · rw [List.getD_eq_getElem?_getD, List.getElem?_eq_getElem hl]; show pm[i] = _; omega
  · rw [List.getElem?_eq_getElem hl]; congr 1; omega
theorem perm_ne {pm : List Int} {n : Nat} (P : PermL pm n) {i j : Nat} (hi : i < n) (hj : j < n) (e : (pm.getD i 0).toNat = (pm.getD j 0).toNat) : i = j := by
  obtain ⟨k, _, h1, h2⟩ := perm_at P hi
  obtain ⟨l, _, h3, h4⟩ := perm_at P hj
  rw [h1, h3] at e
  have hkl : k = l := by simpa using e
  subst hkl
  obtain ⟨a1, a2⟩ := List.getElem?_eq_some_iff.1 h2
  obtain ⟨b1, b2⟩ := List.getElem?_eq_some_iff.1 h4
  have N := (count_one n pm (Nat.le_of_eq P.1) P.2).1
  rw [← N.idxOf_getElem i a1, ← N.idxOf_getElem j b1, a2, b2]
theorem rnK_at {h : Hp} {pm : List Int} (P : PermL pm h.objs.length) : ∀ {k : Nat}, k ≤ h.objs.length → ∀ (i : Nat) (x : Ob), i < k → h.objs[i]? = some x → (rnK h pm k)[(pm.getD i 0).toNat]? = some (rnO h.objs.length pm x)
  | 0, _, i, x, hi, _ => absurd hi (Nat.not_lt_zero i)
  | k + 1, hk, i, x, hi, hx => by
    unfold rnK
    rw [List.getElem?_set]
    by_cases g : i = k
    · subst g
      obtain ⟨l, hl, h1, -⟩ := perm_at P (i := i) (by omega)
      have : (pm.getD i 0).toNat < (rnK h pm i).length := by rw [rnK_len, h1]; exact hl
      rw [if_pos rfl, if_pos this, List.getD_eq_getElem?_getD (l := h.objs), hx]; rfl
    · rw [if_neg fun e => g (perm_ne P (by omega) (by omega) e).symm]
      exact rnK_at P (by omega) i x (by omega) hx
theorem rn_ren {h : Hp} {pm : List Int} (P : PermL pm h.objs.length) : Ren h ⟨rnK h pm h.objs.length, h.cap, h.last⟩ pm :=
  ⟨P, rnK_len h pm _, rfl, rfl, fun i x hx => rnK_at P (Nat.le_refl _) i x (List.getElem?_eq_some_iff.1 hx).1 hx⟩
end Go.Proofs.Ytnilempeldlieaa
namespace Go.Proofs.Ytnilempeldlieaa
open Go.RowKit
structure St where
  hp : Hp
  proc : Int
  ready : Int
  halt : Int
  steps : Int
  used : Int
def ckB (s : St) : Bool := mayB s.hp && decide (12 ≤ s.hp.objs.length) && refB s.hp.objs.length s.proc && refB s.hp.objs.length s.ready && decide (0 ≤ s.halt ∧ s.halt ≤ 255) && decide (0 ≤ s.steps ∧ s.steps ≤ 1099511627776) && decide (0 ≤ s.used ∧ s.used ≤ 1000)
structure Ck15 (s : St) : Prop where
  may : mayB s.hp = true
  len : 12 ≤ s.hp.objs.length
  proc : refB s.hp.objs.length s.proc = true
  ready : refB s.hp.objs.length s.ready = true
  halt : 0 ≤ s.halt ∧ s.halt ≤ 255
  steps : 0 ≤ s.steps ∧ s.steps ≤ 1099511627776
  used : 0 ≤ s.used ∧ s.used ≤ 1000
theorem ck_iff {s : St} : ckB s = true ↔ Ck15 s := by
  unfold ckB
  simp only [Bool.and_eq_true, decide_eq_true_eq]
  exact ⟨fun ⟨⟨⟨⟨⟨⟨a, b⟩, c⟩, d⟩, e⟩, f⟩, g⟩ => ⟨a, b, c, d, e, f, g⟩, fun ⟨a, b, c, d, e, f, g⟩ => ⟨⟨⟨⟨⟨⟨a, b⟩, c⟩, d⟩, e⟩, f⟩, g⟩⟩
def sp15 : List Int := [0, 2, 4, 6, 8, 10, 12, 14, 16, 18, 20, 22]
def rt15 (s : St) : List Int := sp15 ++ [s.proc, s.ready]
theorem rt15_len (s : St) : (rt15 s).length = 14 := rfl
theorem sp15_eq : sp15 = (List.range 12).map fun (i : Nat) => 2 * (i : Int) := by decide
theorem mem_sp15 {i : Nat} (hi : i < 12) : 2 * (i : Int) ∈ sp15 := by rw [sp15_eq]; exact List.mem_map.2 ⟨i, List.mem_range.2 hi, rfl⟩
theorem sp15_of {v : Int} (h : v ∈ sp15) : ∃ i : Nat, i < 12 ∧ v = 2 * (i : Int) := by
  rw [sp15_eq] at h
  obtain ⟨i, hi, rfl⟩ := List.mem_map.1 h
  exact ⟨i, List.mem_range.1 hi, rfl⟩
def zeroS : St := ⟨zeroH, 0, 0, 0, 0, 0⟩
noncomputable def cl15 (s : St) : St := ⟨coH s.hp (rt15 s), vaV (tabL s.hp (rt15 s)) s.proc, vaV (tabL s.hp (rt15 s)) s.ready, s.halt, s.steps, s.used⟩
theorem rt_li {s : St} (c : Ck15 s) : liE s.hp (rt15 s) = 0 := by
  unfold liE
  rw [if_pos c.may, if_pos]
  refine List.all_eq_true.2 fun v hv => ?_
  have h256 := may_len c.may
  have hl := c.len
  rcases List.mem_append.1 hv with g | g
  · obtain ⟨i, hi, rfl⟩ := sp15_of g
    exact ref_has (ref_two h256 (by omega)).1
  · rcases List.mem_cons.1 g with rfl | g
    · exact ref_has c.proc
    · rcases List.mem_cons.1 g with rfl | g
      · exact ref_has c.ready
      · cases g
/-! ### the first twelve keep their numbers -/
theorem sp_live {s : St} (c : Ck15 s) {i : Nat} (hi : i < 12) : i ∈ liveN s.hp (rt15 s) := by
  have hl := c.len
  have h256 := may_len c.may
  obtain ⟨r1, r2⟩ := ref_two h256 (show i < s.hp.objs.length by omega)
  have := mem_liveN.2 (Reach.root (h := s.hp) (rs := rt15 s) (2 * (i : Int)) (List.mem_append_left _ (mem_sp15 hi)) r1)
  rw [r2] at this
  exact this
theorem live_head {s : St} (c : Ck15 s) : ∃ t, liveN s.hp (rt15 s) = List.range 12 ++ t := by
  have hl := c.len
  obtain ⟨m, hm⟩ : ∃ m, s.hp.objs.length = 12 + m := ⟨s.hp.objs.length - 12, by omega⟩
  have hL := fun i hi => mem_liveN.1 (sp_live c (i := i) hi)
  unfold liveN
  rw [hm, List.range_add, List.filter_append]
  refine ⟨_, congrArg (· ++ _) (List.filter_eq_self.2 fun i hi => ?_)⟩
  simp only [decide_eq_true_eq]
  exact hL i (List.mem_range.1 hi)
theorem idx_range {n i : Nat} (hi : i < n) (t : List Nat) : (List.range n ++ t).idxOf i = i := by
  have hl : i < (List.range n).length := by rw [List.length_range]; exact hi
  have h1 := (List.nodup_range (n := n)).idxOf_getElem i hl
  rw [List.getElem_range] at h1
  rw [List.idxOf_append, if_pos (List.mem_range.2 hi), h1]
theorem sp_idx {s : St} (c : Ck15 s) {i : Nat} (hi : i < 12) : (liveN s.hp (rt15 s)).idxOf i = i := by
  obtain ⟨t, ht⟩ := live_head c
  rw [ht]
  exact idx_range hi t
theorem sp_val {s : St} (c : Ck15 s) {i : Nat} (hi : i < 12) : vaV (tabL s.hp (rt15 s)) (2 * (i : Int)) = 2 * (i : Int) := by
  have hl := c.len
  have h256 := may_len c.may
  obtain ⟨r1, r2⟩ := ref_two h256 (show i < s.hp.objs.length by omega)
  have hn : (atV (2 * (i : Int))).toNat = i := by rw [r2]; rfl
  rw [(va_ref (rt_li c) r1 (by rw [hn]; exact sp_live c hi)).1, hn, sp_idx c hi]
theorem co_roots {s : St} (c : Ck15 s) : coL s.hp (rt15 s) = rt15 (cl15 s) := by
  rw [coL_yes (rt_li c)]
  unfold rt15
  rw [List.map_append]
  congr 1
  rw [sp15_eq, List.map_map]
  apply List.map_congr_left
  intro i hi
  have := sp_val c (List.mem_range.1 hi)
  unfold rt15 at this
  rw [sp15_eq] at this
  exact this
theorem co_ck {s : St} (c : Ck15 s) : Ck15 (cl15 s) := by
  have e := rt_li c
  refine ⟨co_may e, ?_, ?_, ?_, c.halt, c.steps, c.used⟩
  · obtain ⟨t, ht⟩ := live_head c
    show 12 ≤ (coH s.hp (rt15 s)).objs.length
    rw [coH_len e, ht, List.length_append, List.length_range]; omega
  · show refB (coH s.hp (rt15 s)).objs.length (vaV (tabL s.hp (rt15 s)) s.proc) = true
    rw [(va_live e (live_root e (v := s.proc) (by unfold rt15; simp))).2.2]; exact c.proc
  · show refB (coH s.hp (rt15 s)).objs.length (vaV (tabL s.hp (rt15 s)) s.ready) = true
    rw [(va_live e (live_root e (v := s.ready) (by unfold rt15; simp))).2.2]; exact c.ready
/-! ### a heap compacted is the same but for numbers -/
theorem co_val {h : Hp} {rs : List Int} (e : liE h rs = 0) {v : Int} (hl : LiveV h rs v) :
    ValR h (coH h rs) (fun i k => i ∈ liveN h rs ∧ (liveN h rs).idxOf i = k) v (vaV (tabL h rs) v) := by
  obtain ⟨h1, -, h3⟩ := va_live e hl
  have h256 := may_len (li_ok e).1
  have hle := liveN_le h rs
  cases hr : refB h.objs.length v
  · rw [hr] at h3
    exact .inl ⟨hr, h3, (va_small (has_not hl.1 hr)).1.symm⟩
  · rw [hr] at h3
    have hi := hl.2 hr
    have hx : (liveN h rs).idxOf (atV v).toNat < (liveN h rs).length := List.idxOf_lt_length_iff.2 hi
    refine .inr ⟨hr, h3, hi, ?_⟩
    rw [(va_ref e hr hi).1, (ref_two (n := 256) (Nat.le_refl _) (show (liveN h rs).idxOf (atV v).toNat < 256 by omega)).2]
    rfl
theorem co_pairs {h : Hp} {rs : List Int} (e : liE h rs = 0) : Pairs h rs (coH h rs) (coL h rs) (fun i k => i ∈ liveN h rs ∧ (liveN h rs).idxOf i = k) where
  roots := by
    rw [coL_yes e]
    exact all2_map fun v hv => co_val e (live_root e hv)
  obs := fun i k x y ⟨hi, hk⟩ hx hy => by
    subst hk
    have hlt : (liveN h rs).idxOf i < (liveN h rs).length := List.idxOf_lt_length_iff.2 hi
    obtain ⟨o, h1, h2⟩ := coH_get e hlt
    rw [List.getElem_idxOf hlt, hx] at h1
    rw [hy] at h2
    obtain rfl := Option.some.inj h1
    obtain rfl := Option.some.inj h2
    exact ⟨co_val e (live_step e hi hx (List.mem_cons_self ..)), rfl, all2_map fun v hv => co_val e (live_step e hi hx (List.mem_cons_of_mem _ hv)), rfl, rfl, rfl⟩
  fn := fun i k l hk hl => hk.2.symm.trans hl.2
  inj := fun i j k ⟨hi, hk⟩ ⟨hj, hl⟩ => by
    have h1 := List.getElem_idxOf (List.idxOf_lt_length_iff.2 hi)
    have h2 := List.getElem_idxOf (List.idxOf_lt_length_iff.2 hj)
    rw [← h1, ← h2]
    simp only [hk, hl]
theorem co_same15 {s : St} (c : Ck15 s) : SameP s.hp (rt15 s) (cl15 s).hp (rt15 (cl15 s)) := by
  have e := rt_li c
  rw [← co_roots c]
  exact ⟨e, co_liE e, _, co_pairs e⟩
theorem co_twice {s : St} (c : Ck15 s) : cl15 (cl15 s) = cl15 s := by
  have e := rt_li c
  obtain ⟨h1, h2⟩ := co_again e
  have e2 := rt_li (co_ck c)
  rw [co_roots c] at h1 h2
  rw [coL_yes (show liE (coH s.hp (rt15 s)) (rt15 (cl15 s)) = 0 from e2)] at h2
  have hp : vaV (tabL (cl15 s).hp (rt15 (cl15 s))) (cl15 s).proc = (cl15 s).proc ∧ vaV (tabL (cl15 s).hp (rt15 (cl15 s))) (cl15 s).ready = (cl15 s).ready := by
    have h3 : ∀ v ∈ rt15 (cl15 s), vaV (tabL (cl15 s).hp (rt15 (cl15 s))) v = v := by
      intro v hv
      obtain ⟨k, hk⟩ := List.mem_iff_getElem?.1 hv
      have h4 := congrArg (fun l => l[k]?) h2
      simp only [List.getElem?_map] at h4
      rw [hk] at h4
      exact Option.some.inj h4
    exact ⟨h3 _ (by unfold rt15; simp), h3 _ (by unfold rt15; simp)⟩
  show (⟨coH (cl15 s).hp (rt15 (cl15 s)), vaV (tabL (cl15 s).hp (rt15 (cl15 s))) (cl15 s).proc, vaV (tabL (cl15 s).hp (rt15 (cl15 s))) (cl15 s).ready, s.halt, s.steps, s.used⟩ : St) = _
  rw [hp.1, hp.2]
  show (⟨coH (coH s.hp (rt15 s)) (rt15 (cl15 s)), _, _, _, _, _⟩ : St) = _
  rw [h1]
  rfl
theorem co_all {s : St} (c : Ck15 s) : (liL (cl15 s).hp (rt15 (cl15 s))).length = (cl15 s).hp.objs.length := by
  rw [← co_roots c]; exact co_live (rt_li c)
theorem co_first {s : St} (c : Ck15 s) {i : Nat} (hi : i < 12) : ∃ o p, s.hp.objs[i]? = some o ∧ (cl15 s).hp.objs[i]? = some p ∧ p.hash = o.hash ∧ p.kind = o.kind := by
  have e := rt_li c
  have hlt : (liveN s.hp (rt15 s)).idxOf i < (liveN s.hp (rt15 s)).length := List.idxOf_lt_length_iff.2 (sp_live c hi)
  obtain ⟨o, h1, h2⟩ := coH_get e hlt
  rw [List.getElem_idxOf hlt] at h1
  rw [sp_idx c hi] at h2
  exact ⟨o, _, h1, h2, rfl, rfl⟩
/-! ### states the same but for numbers -/
noncomputable def ssB (a b : St) : Bool := @decide (ckB a = true ∧ ckB b = true ∧ a.halt = b.halt ∧ a.steps = b.steps ∧ a.used = b.used ∧ SameP a.hp (rt15 a) b.hp (rt15 b)) (Classical.propDecidable _)
theorem ssB_iff {a b : St} : ssB a b = true ↔ ckB a = true ∧ ckB b = true ∧ a.halt = b.halt ∧ a.steps = b.steps ∧ a.used = b.used ∧ SameP a.hp (rt15 a) b.hp (rt15 b) := by unfold ssB; exact @decide_eq_true_iff _ (Classical.propDecidable _)
theorem ssB_no {a b : St} (h : ¬ (ckB a = true ∧ ckB b = true ∧ a.halt = b.halt ∧ a.steps = b.steps ∧ a.used = b.used ∧ SameP a.hp (rt15 a) b.hp (rt15 b))) : ssB a b = false := by
  cases g : ssB a b
  · rfl
  · exact absurd (ssB_iff.1 g) h
theorem ss_turn {a b : St} (h : ssB a b = true) : ssB b a = true := by
  obtain ⟨h1, h2, h3, h4, h5, h6⟩ := ssB_iff.1 h
  exact ssB_iff.2 ⟨h2, h1, h3.symm, h4.symm, h5.symm, h6.turn⟩
theorem ss_then {a b c : St} (h : ssB a b = true) (g : ssB b c = true) : ssB a c = true := by
  obtain ⟨h1, h2, h3, h4, h5, h6⟩ := ssB_iff.1 h
  obtain ⟨g1, g2, g3, g4, g5, g6⟩ := ssB_iff.1 g
  exact ssB_iff.2 ⟨h1, g2, h3.trans g3, h4.trans g4, h5.trans g5, h6.then g6⟩
theorem ss_cl {s : St} (c : Ck15 s) : ssB s (cl15 s) = true := ssB_iff.2 ⟨ck_iff.2 c, ck_iff.2 (co_ck c), rfl, rfl, rfl, co_same15 c⟩
/-! ### objects that change places -/
def rn15 (s : St) (pm : List Int) : St := ⟨⟨rnK s.hp pm s.hp.objs.length, s.hp.cap, s.hp.last⟩, rnV s.hp.objs.length pm s.proc, rnV s.hp.objs.length pm s.ready, s.halt, s.steps, s.used⟩
theorem rn_roots {s : St} (c : Ck15 s) {pm : List Int} (hf : ∀ i < 12, pm.getD i 0 = (i : Int)) : (rt15 s).map (rnV s.hp.objs.length pm) = rt15 (rn15 s pm) := by
  unfold rt15
  rw [List.map_append]
  congr 1
  rw [sp15_eq, List.map_map]
  apply List.map_congr_left
  intro i hi
  have hi := List.mem_range.1 hi
  have hl := c.len
  obtain ⟨r1, r2⟩ := ref_two (may_len c.may) (show i < s.hp.objs.length by omega)
  show rnV _ pm (2 * (i : Int)) = 2 * (i : Int)
  unfold rnV
  rw [if_pos r1, r2]
  show 2 * pm.getD i 0 = _
  rw [hf i hi]
theorem ss_rn {s : St} (c : Ck15 s) {pm : List Int} (P : PermL pm s.hp.objs.length) (hf : ∀ i < 12, pm.getD i 0 = (i : Int)) : ssB s (rn15 s pm) = true := by
  have r := rn_ren P
  have e := rt_li c
  have h256 := may_len c.may
  have hs := r.same e
  rw [rn_roots c hf] at hs
  refine ssB_iff.2 ⟨ck_iff.2 c, ck_iff.2 ⟨r.may c.may, ?_, ?_, ?_, c.halt, c.steps, c.used⟩, rfl, rfl, rfl, hs⟩
  · show 12 ≤ (rnK s.hp pm s.hp.objs.length).length
    rw [rnK_len]; exact c.len
  · exact ((r.has h256 (ref_has c.proc)).2).trans c.proc
  · exact ((r.has h256 (ref_has c.ready)).2).trans c.ready
theorem rn_at {n : Nat} {pm : List Int} {v : Int} (hr : refB n v = true) : rnV n pm v = 2 * pm.getD (v / 2).toNat 0 := by
  unfold rnV
  rw [if_pos hr]
  have a := (refB_no hr).1
  have : atV v = v / 2 := by unfold atV; rw [if_pos a]
  rw [this]
/-! ### one object more, behind, that nobody has -/
def gb15 (s : St) (o : Ob) : St := { s with hp := ⟨s.hp.objs ++ [o], s.hp.cap, s.hp.last⟩ }
theorem ref_more {n : Nat} {v : Int} (hv : hasB n v = true) : refB (n + 1) v = refB n v := by
  cases hr : refB n v
  · have hn := has_not hv hr
    cases hc : refB (n + 1) v
    · rfl
    · rw [nB_no hc] at hn; cases hn
  · obtain ⟨a, b, d⟩ := refB_no hr
    unfold refB
    rw [a, Bool.true_and]
    exact decide_eq_true (by push_cast; omega)
section
variable {h : Hp} {o : Ob} {rs : List Int}
theorem more_at {i : Nat} (hi : i < h.objs.length) : (h.objs ++ [o])[i]? = h.objs[i]? := List.getElem?_append_left hi
theorem more_reach (e : liE h rs = 0) {i : Nat} : Reach ⟨h.objs ++ [o], h.cap, h.last⟩ rs i ↔ Reach h rs i := by
  obtain ⟨hm, hv, -⟩ := li_ok e
  have hlen : (h.objs ++ [o]).length = h.objs.length + 1 := by simp
  constructor
  · intro r
    refine r.least (Reach h rs) (fun v hv' hr => ?_) (fun i x v hi hx hv' hr => ?_)
    · rw [show (⟨h.objs ++ [o], h.cap, h.last⟩ : Hp).objs.length = h.objs.length + 1 from hlen, ref_more (hv v hv')] at hr
      exact .root v hv' hr
    · rw [show (⟨h.objs ++ [o], h.cap, h.last⟩ : Hp).objs = h.objs ++ [o] from rfl, more_at hi.lt] at hx
      obtain ⟨o1, o2⟩ := ob_vals (may_all hm _ (List.mem_of_getElem? hx))
      have hb : hasB h.objs.length v = true := by
        rcases List.mem_cons.1 hv' with g | g
        · rw [g]; exact ref_has o1
        · exact o2 v g
      rw [show (⟨h.objs ++ [o], h.cap, h.last⟩ : Hp).objs.length = h.objs.length + 1 from hlen, ref_more hb] at hr
      exact .step i x v hi hx hv' hr
  · intro r
    refine r.least (Reach ⟨h.objs ++ [o], h.cap, h.last⟩ rs) (fun v hv' hr => ?_) (fun i x v hi hx hv' hr => ?_)
    · refine .root v hv' ?_
      rw [show (⟨h.objs ++ [o], h.cap, h.last⟩ : Hp).objs.length = h.objs.length + 1 from hlen, ref_more (ref_has hr)]; exact hr
    · refine .step i x v hi ?_ hv' ?_
      · rw [show (⟨h.objs ++ [o], h.cap, h.last⟩ : Hp).objs = h.objs ++ [o] from rfl, more_at (List.getElem?_eq_some_iff.1 hx).1]; exact hx
      · rw [show (⟨h.objs ++ [o], h.cap, h.last⟩ : Hp).objs.length = h.objs.length + 1 from hlen, ref_more (ref_has hr)]; exact hr
theorem more_live (e : liE h rs = 0) : liveN ⟨h.objs ++ [o], h.cap, h.last⟩ rs = liveN h rs := by
  have hlen : (h.objs ++ [o]).length = h.objs.length + 1 := by simp
  unfold liveN
  rw [show (⟨h.objs ++ [o], h.cap, h.last⟩ : Hp).objs.length = h.objs.length + 1 from hlen, List.range_succ, List.filter_append]
  have h1 : ([h.objs.length] : List Nat).filter (fun i => @decide (Reach ⟨h.objs ++ [o], h.cap, h.last⟩ rs i) (Classical.propDecidable _)) = [] := by
    refine List.filter_eq_nil_iff.2 fun i hi => ?_
    rw [List.mem_singleton.1 hi]
    simp only [decide_eq_true_eq]
    intro r
    have := ((more_reach e).1 r).lt
    omega
  rw [h1, List.append_nil]
  apply List.filter_congr
  intro i _
  exact decide_eq_decide.2 (more_reach e)
theorem more_val (e : liE h rs = 0) (e2 : liE ⟨h.objs ++ [o], h.cap, h.last⟩ rs = 0) {v : Int} (hl : LiveV h rs v) : vaV (tabL ⟨h.objs ++ [o], h.cap, h.last⟩ rs) v = vaV (tabL h rs) v := by
  have hlen : (h.objs ++ [o]).length = h.objs.length + 1 := by simp
  cases hr : refB h.objs.length v
  · have hn := has_not hl.1 hr
    rw [(va_small hn).1, (va_small hn).1]
  · have hr2 : refB (h.objs ++ [o]).length v = true := by rw [hlen, ref_more hl.1]; exact hr
    rw [(va_ref e hr (hl.2 hr)).1, (va_ref e2 hr2 (by rw [more_live e]; exact hl.2 hr)).1, more_live e]
theorem more_co (e : liE h rs = 0) (e2 : liE ⟨h.objs ++ [o], h.cap, h.last⟩ rs = 0) : coH ⟨h.objs ++ [o], h.cap, h.last⟩ rs = coH h rs := by
  have h1 := coH_objs e
  have h2 := coH_objs e2
  rw [more_live e] at h2
  have h3 : (coH ⟨h.objs ++ [o], h.cap, h.last⟩ rs).objs = (coH h rs).objs := by
    rw [h1, h2]
    apply List.map_congr_left
    intro i hi
    have hlt := liveN_lt hi
    have ha : (h.objs ++ [o]).getD i default = h.objs.getD i default := by rw [List.getD_eq_getElem?_getD, List.getD_eq_getElem?_getD, more_at hlt]
    show moO _ ((h.objs ++ [o]).getD i default) = _
    rw [ha]
    have hx : h.objs[i]? = some (h.objs.getD i default) := by rw [List.getD_eq_getElem?_getD, List.getElem?_eq_getElem hlt]; rfl
    unfold moO
    rw [more_val e e2 (live_step e hi hx (List.mem_cons_self ..))]
    congr 1
    apply List.map_congr_left
    intro v hv
    exact more_val e e2 (live_step e hi hx (List.mem_cons_of_mem _ hv))
  rw [coH_yes e, coH_yes e2] at h3 ⊢
  simp only [Hp.mk.injEq, and_true] at h3 ⊢
  exact h3
end
theorem gb_cl {s : St} {o : Ob} (c : Ck15 s) (d : Ck15 (gb15 s o)) : cl15 (gb15 s o) = cl15 s := by
  have e := rt_li c
  have e2 : liE ⟨s.hp.objs ++ [o], s.hp.cap, s.hp.last⟩ (rt15 s) = 0 := rt_li d
  have h1 := more_co e e2
  have h2 := more_val e e2 (live_root e (v := s.proc) (by unfold rt15; simp))
  have h3 := more_val e e2 (live_root e (v := s.ready) (by unfold rt15; simp))
  show (⟨coH ⟨s.hp.objs ++ [o], s.hp.cap, s.hp.last⟩ (rt15 s), vaV (tabL ⟨s.hp.objs ++ [o], s.hp.cap, s.hp.last⟩ (rt15 s)) s.proc, vaV (tabL ⟨s.hp.objs ++ [o], s.hp.cap, s.hp.last⟩ (rt15 s)) s.ready, s.halt, s.steps, s.used⟩ : St) = _
  rw [h1, h2, h3]
  rfl
theorem ss_gb {s : St} {o : Ob} (c : Ck15 s) (d : Ck15 (gb15 s o)) : ssB s (gb15 s o) = true := by
  have h1 := ss_cl c
  have h2 := ss_cl d
  rw [gb_cl c d] at h2
  exact ss_then h1 (ss_turn h2)
theorem co_fit15 {s : St} (c : Ck15 s) : (cl15 s).hp.Fit := by
  have hm := (co_ck c).may
  refine ⟨by have := may_len hm; omega, fun o ho => ?_⟩
  have := (kind_len (ob_kind (may_all hm _ ho))).1
  exact Nat.le_trans (by exact_mod_cast this) (by decide)
end Go.Proofs.Ytnilempeldlieaa
