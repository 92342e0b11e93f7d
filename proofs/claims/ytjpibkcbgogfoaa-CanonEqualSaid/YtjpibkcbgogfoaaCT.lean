/- The document's small parts of stage 6 in the words of the plain heaps: a place in a list, values by a list, meeting step by step, lists with each number once, objects that change places one by one. -/
import Derived.Test.YtjpibkcbgogfoaaCR
namespace Go.Proofs.Ytjpibkcbgogfoaa
open Go.RowKit
/-- numbers as ints -/
def iL (M : List Nat) : List Int := M.map fun (x : Nat) => (x : Int)
def plZ (L : List Int) (x : Int) : Int := if x ∈ L then (L.idxOf x : Int) else -1
theorem plZ_no {L : List Int} {x : Int} (h : x ∉ L) : plZ L x = -1 := by unfold plZ; rw [if_neg h]
theorem plZ_at {L : List Int} {x : Int} {k : Nat} (hk : k < L.length) (hn : x ∉ L.take k) (he : L[k] = x) : plZ L x = k := by
  have hm : x ∈ L := he ▸ List.getElem_mem hk
  have h1 : L.take k ++ L.drop k = L := List.take_append_drop k L
  have h2 : L.idxOf x = k := by
    rw [← h1, List.idxOf_append, if_neg hn, List.drop_eq_getElem_cons hk, he, List.idxOf_cons_self, List.length_take]
    omega
  unfold plZ; rw [if_pos hm, h2]
theorem plZ_range (L : List Int) (x : Int) : -1 ≤ plZ L x ∧ plZ L x < (L.length : Int) ∨ plZ L x = -1 := by
  unfold plZ
  split
  · rename_i h
    have := List.idxOf_lt_length_iff.2 h
    omega
  · exact .inr rfl
/-- v by a list of numbers -/
def tuV (n : Nat) (L : List Int) (v : Int) : Int := if refB n v = true then 2 * plZ L (atV v) else v
theorem idx_cast (M : List Nat) (i : Nat) : plZ (iL M) i = if i ∈ M then (M.idxOf i : Int) else -1 := by
  unfold plZ
  have h1 : ((i : Int) ∈ iL M) ↔ i ∈ M := by
    simp only [iL, List.mem_map]
    constructor
    · rintro ⟨j, hj, e⟩
      obtain rfl : j = i := by omega
      exact hj
    · exact fun h => ⟨i, h, rfl⟩
  have h2 : ∀ M : List Nat, (iL M).idxOf (i : Int) = M.idxOf i := by
    intro M
    induction M with
    | nil => rfl
    | cons a M ih =>
      show ((a : Int) :: iL M).idxOf (i : Int) = _
      rw [List.idxOf_cons, List.idxOf_cons, ih]
      have : ((a : Int) == (i : Int)) = (a == i) := by
        by_cases g : a = i
        · subst g; simp
        · have : ¬ (a : Int) = (i : Int) := by omega
          rw [beq_eq_false_iff_ne.2 g, beq_eq_false_iff_ne.2 this]
      rw [this]
  by_cases g : i ∈ M
  · rw [if_pos g, if_pos (h1.2 g), h2]
  · rw [if_neg g, if_neg fun h => g (h1.1 h)]
/-- what is met has its number -/
theorem tu_cn {h : Hp} {M : List Nat} {v : Int} (hv : refB h.objs.length v = true → (atV v).toNat ∈ M) : tuV h.objs.length (iL M) v = cnV h M v := by
  unfold tuV cnV
  cases hr : refB h.objs.length v
  · rfl
  · rw [if_pos rfl, if_pos rfl]
    conv => lhs; rw [← (refB_nat hr).2]
    rw [idx_cast, if_pos (hv hr)]
def takeG (f : Int → Int) (l : List Int) (k : Nat) : List Int := (l.take k).map f
theorem takeG_all (f : Int → Int) (l : List Int) : takeG f l l.length = l.map f := by unfold takeG; rw [List.take_length]
theorem takeG_map (f : Int → Int) (l : List Int) (k : Nat) (hk : k < l.length) : takeG f l (k + 1) = takeG f l k ++ [f l[k]] := by
  unfold takeG
  rw [List.take_succ_eq_append_getElem hk, List.map_append]; rfl
theorem cast_len (M : List Nat) : (iL M).length = M.length := List.length_map ..
/-- not met yet -/
theorem pl_new {M : List Nat} {n : Nat} {v : Int} (hr : refB n v = true) : plZ (iL M) (atV v) < 0 ↔ (atV v).toNat ∉ M := by
  have e : plZ (iL M) (atV v) = if (atV v).toNat ∈ M then (M.idxOf (atV v).toNat : Int) else -1 := by
    conv => lhs; rw [← (refB_nat hr).2]
    exact idx_cast M _
  rw [e]
  constructor
  · intro g hm
    rw [if_pos hm] at g; omega
  · intro g
    rw [if_neg g]; decide
theorem meetL_new {h : Hp} {M : List Nat} {v : Int} (hr : refB h.objs.length v = true) (hn : (atV v).toNat ∉ M) : iL (meetL h M v) = iL M ++ [atV v] := by
  unfold meetL
  rw [if_pos ⟨hr, hn⟩]
  unfold iL
  rw [List.map_append]
  show _ ++ [((atV v).toNat : Int)] = _
  rw [(refB_nat hr).2]
theorem meetL_old {h : Hp} {M : List Nat} {v : Int} (hm : refB h.objs.length v = true → (atV v).toNat ∈ M) : meetL h M v = M := by
  unfold meetL
  rw [if_neg fun c => c.2 (hm c.1)]
theorem meets_take {h : Hp} {M : List Nat} {vs : List Int} {k : Nat} (hk : k < vs.length) : meets h M (vs.take (k + 1)) = meetL h (meets h M (vs.take k)) vs[k] := by
  rw [List.take_succ_eq_append_getElem hk, meets_append]; rfl
/-- one more of those met is looked through -/
theorem bfs_step {h : Hp} {M : List Nat} {k : Nat} (hk : k < M.length) (hm : M.length ≤ h.objs.length) : bfs h (h.objs.length - k) M k = bfs h (h.objs.length - (k + 1)) (meets h M (edges h M[k])) (k + 1) := by
  obtain ⟨f, hf⟩ : ∃ f, h.objs.length - k = f + 1 := ⟨h.objs.length - k - 1, by omega⟩
  have : h.objs.length - (k + 1) = f := by omega
  rw [hf, this]
  conv => lhs; unfold bfs
  rw [List.getElem?_eq_getElem hk]
theorem bfs_end {h : Hp} {M : List Nat} (f : Nat) : bfs h f M M.length = M := by
  cases f with
  | zero => rfl
  | succ f => unfold bfs; rw [List.getElem?_eq_none (Nat.le_refl _)]
/-- what holds while those met are looked through -/
structure Goes6 (h : Hp) (rs : List Int) (M : List Nat) (k : Nat) : Prop where
  met : Met h rs M
  le : k ≤ M.length
  all : bfs h (h.objs.length - k) M k = ordN h rs
theorem Goes6.start (h : Hp) (rs : List Int) : Goes6 h rs (meets h [] rs) 0 := ⟨start_met h rs, Nat.zero_le _, rfl⟩
theorem Goes6.step {h : Hp} {rs : List Int} {M : List Nat} {k : Nat} (g : Goes6 h rs M k) (hk : k < M.length) : Goes6 h rs (meets h M (edges h M[k])) (k + 1) := by
  have hq := g.met.lt (List.getElem_mem hk)
  have ho := List.getElem?_eq_getElem hq
  have he : edges h M[k] = h.objs[M[k]].cls :: h.objs[M[k]].slots := by unfold edges; rw [ho]
  obtain ⟨t, ht⟩ := meets_pre h (edges h M[k]) M
  refine ⟨meets_met _ g.met fun v hv hr => .step _ _ v (g.met.sound _ (List.getElem_mem hk)) ho (by rw [← he]; exact hv) hr, by rw [ht, List.length_append]; omega, ?_⟩
  rw [← bfs_step hk g.met.len, g.all]
theorem Goes6.done {h : Hp} {rs : List Int} {M : List Nat} {k : Nat} (g : Goes6 h rs M k) (hk : M.length ≤ k) : M = ordN h rs := by
  obtain rfl : k = M.length := Nat.le_antisymm g.le hk
  rw [← g.all, bfs_end]
/-- of those met the first k, as they are told -/
def cnK (h : Hp) (M : List Nat) (k : Nat) : List Ob := (M.take k).map fun q => cnO h M (h.objs.getD q default)
theorem cnK_len {h : Hp} {M : List Nat} {k : Nat} (hk : k ≤ M.length) : (cnK h M k).length = k := by unfold cnK; rw [List.length_map, List.length_take]; omega
theorem cnK_succ {h : Hp} {M : List Nat} {k : Nat} (hk : k < M.length) : cnK h M (k + 1) = cnK h M k ++ [cnO h M (h.objs.getD M[k] default)] := by
  unfold cnK; rw [List.take_succ_eq_append_getElem hk, List.map_append]; rfl
theorem cnK_all {h : Hp} {rs : List Int} (e : liE h rs = 0) : cnK h (ordN h rs) (ordN h rs).length = (cnH h rs).objs := by
  unfold cnK; rw [List.take_length, cn_objs e]
theorem cnK_met {h : Hp} {rs : List Int} (e : liE h rs = 0) {k : Nat} (hk : k < (ordN h rs).length) : ∃ o, h.objs[(ordN h rs)[k]]? = some o ∧
    (∀ v ∈ o.cls :: o.slots, tuV h.objs.length (iL (ordN h rs)) v = cnV h (ordN h rs) v) ∧ cnK h (ordN h rs) (k + 1) = cnK h (ordN h rs) k ++ [cnO h (ordN h rs) o] := by
  have hq := ordN_lt (List.getElem_mem hk)
  have ho := List.getElem?_eq_getElem hq
  refine ⟨_, ho, fun v hv => tu_cn (meet_step e (List.getElem_mem hk) ho hv).2, ?_⟩
  rw [cnK_succ hk, List.getD_eq_getElem?_getD, ho]; rfl
theorem tu_roots {h : Hp} {rs : List Int} (e : liE h rs = 0) : rs.map (tuV h.objs.length (iL (ordN h rs))) = cnL h rs := by
  rw [cnL_yes e]
  exact List.map_congr_left fun v hv => tu_cn (meet_root e hv).2
/-! ### Each number once -/
def pmB (L : List Int) (n : Nat) : Bool := decide (L.length = n) && (List.range n).all fun i => decide ((i : Int) ∈ L)
theorem pmB_iff {L : List Int} {n : Nat} : pmB L n = true ↔ PermL L n := by
  unfold pmB PermL
  simp
theorem pl_in {L : List Int} {x : Int} : plZ L x < 0 ↔ x ∉ L := by
  unfold plZ
  split
  · rename_i h; constructor
    · intro g; omega
    · intro g; exact absurd h g
  · rename_i h; exact ⟨fun _ => h, fun _ => by decide⟩
/-! ### Objects that change places, one by one -/
def rnK (h : Hp) (pm : List Int) : Nat → List Ob
  | 0 => List.replicate h.objs.length default
  | k + 1 => (rnK h pm k).set (pm.getD k 0).toNat (rnO h.objs.length pm (h.objs.getD k default))
theorem rnK_len (h : Hp) (pm : List Int) : ∀ k, (rnK h pm k).length = h.objs.length
  | 0 => List.length_replicate ..
  | k + 1 => by unfold rnK; rw [List.length_set, rnK_len h pm k]
theorem perm_at {pm : List Int} {n : Nat} (P : PermL pm n) {i : Nat} (hi : i < n) : ∃ k : Nat, k < n ∧ pm.getD i 0 = k ∧ pm[i]? = some (k : Int) := by
  have hl : i < pm.length := by rw [P.1]; exact hi
  have := (count_one n pm (Nat.le_of_eq P.1) P.2).2 _ (List.getElem_mem hl)
  refine ⟨pm[i].toNat, by omega, ?_, ?_⟩
  · rw [List.getD_eq_getElem?_getD, List.getElem?_eq_getElem hl]; show pm[i] = _; omega
  · rw [List.getElem?_eq_getElem hl]; congr 1; omega
theorem perm_ne {pm : List Int} {n : Nat} (P : PermL pm n) {i j : Nat} (hi : i < n) (hj : j < n) (e : (pm.getD i 0).toNat = (pm.getD j 0).toNat) : i = j := by
  obtain ⟨k, _, h1, h2⟩ := perm_at P hi
  obtain ⟨l, _, h3, h4⟩ := perm_at P hj
  rw [h1, h3] at e
  have hkl : k = l := by simpa using e
  subst hkl
  obtain ⟨a1, a2⟩ := List.getElem?_eq_some_iff.1 h2
  obtain ⟨b1, b2⟩ := List.getElem?_eq_some_iff.1 h4
  have N := (count_one n pm (Nat.le_of_eq P.1) P.2).1
  rw [← N.idxOf_getElem i a1, ← N.idxOf_getElem j b1, a2, b2]
theorem rnK_at {h : Hp} {pm : List Int} (P : PermL pm h.objs.length) : ∀ {k : Nat}, k ≤ h.objs.length → ∀ (i : Nat) (x : Ob), i < k → h.objs[i]? = some x → (rnK h pm k)[(pm.getD i 0).toNat]? = some (rnO h.objs.length pm x)
  | 0, _, i, x, hi, _ => absurd hi (Nat.not_lt_zero i)
  | k + 1, hk, i, x, hi, hx => by
    unfold rnK
    rw [List.getElem?_set]
    by_cases g : i = k
    · subst g
      obtain ⟨l, hl, h1, -⟩ := perm_at P (i := i) (by omega)
      have : (pm.getD i 0).toNat < (rnK h pm i).length := by rw [rnK_len, h1]; exact hl
      rw [if_pos rfl, if_pos this, List.getD_eq_getElem?_getD (l := h.objs), hx]; rfl
    · rw [if_neg fun e => g (perm_ne P (by omega) (by omega) e).symm]
      exact rnK_at P (by omega) i x (by omega) hx
theorem rn_ren {h : Hp} {pm : List Int} (P : PermL pm h.objs.length) : Ren h ⟨rnK h pm h.objs.length, h.cap, h.last⟩ pm :=
  ⟨P, rnK_len h pm _, rfl, rfl, fun i x hx => rnK_at P (Nat.le_refl _) i x (List.getElem?_eq_some_iff.1 hx).1 hx⟩
end Go.Proofs.Ytjpibkcbgogfoaa
