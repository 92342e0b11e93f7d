/- Objects numbered as they are met: over plain heaps. What objects numbered as they are met come to: over plain heaps. -/
import Derived.Test.YtnilempeldlieaaM04
namespace Go.Proofs.Ytnilempeldlieaa
open Go.RowKit
/-- what an object leads to -/
def edges (h : Hp) (q : Nat) : List Int := match h.objs[q]? with | some o => o.cls :: o.slots | none => []
/-- values met one by one -/
def meets (h : Hp) (M : List Nat) (vs : List Int) : List Nat := vs.foldl (meetL h) M
/-- from the i'th one met on, at most so many, what each leads to is met -/
def bfs (h : Hp) : Nat → List Nat → Nat → List Nat
  | 0, M, _ => M
  | f + 1, M, i => match M[i]? with | some q => bfs h f (meets h M (edges h q)) (i + 1) | none => M
/-- the numbers of what is reached, in the order in which they are met -/
def ordN (h : Hp) (rs : List Int) : List Nat := bfs h h.objs.length (meets h [] rs) 0
theorem meets_nil (h : Hp) (M : List Nat) : meets h M [] = M := rfl
theorem meets_cons (h : Hp) (M : List Nat) (v : Int) (vs : List Int) : meets h M (v :: vs) = meets h (meetL h M v) vs := rfl
theorem meets_append (h : Hp) (M : List Nat) (a b : List Int) : meets h M (a ++ b) = meets h (meets h M a) b := List.foldl_append ..
theorem meets_pre (h : Hp) : ∀ (vs : List Int) (M : List Nat), ∃ t, meets h M vs = M ++ t
  | [], M => ⟨[], by rw [meets_nil, List.append_nil]⟩
  | v :: vs, M => by
    obtain ⟨t, ht⟩ := meetL_pre h M v
    obtain ⟨u, hu⟩ := meets_pre h vs (meetL h M v)
    exact ⟨t ++ u, by rw [meets_cons, hu, ht, List.append_assoc]⟩
theorem meets_get {h : Hp} {M : List Nat} {k i : Nat} (e : M[k]? = some i) (vs : List Int) : (meets h M vs)[k]? = some i := by
  obtain ⟨t, ht⟩ := meets_pre h vs M
  rw [ht, List.getElem?_append_left (List.getElem?_eq_some_iff.1 e).1, e]
theorem meets_met {h : Hp} {rs : List Int} : ∀ (vs : List Int) {M : List Nat}, Met h rs M → (∀ v ∈ vs, refB h.objs.length v = true → Reach h rs (atV v).toNat) → Met h rs (meets h M vs)
  | [], _, m, _ => m
  | v :: vs, _, m, hv => meets_met vs (m.meet (hv v (by simp))) fun u hu => hv u (List.mem_cons_of_mem _ hu)
theorem meets_keep {h : Hp} : ∀ (vs : List Int) {M : List Nat} {u : Int}, MetV h M u → MetV h (meets h M vs) u
  | [], _, _, m => m
  | v :: vs, _, _, m => meets_keep vs (m.meet (v := v))
theorem meets_all {h : Hp} : ∀ (vs : List Int) {M : List Nat}, ∀ u ∈ vs, MetV h (meets h M vs) u
  | [], _, u, hu => by simp at hu
  | v :: vs, M, u, hu => by
    rcases List.mem_cons.1 hu with g | g
    · rw [g]; exact meets_keep vs meetL_self
    · exact meets_all vs u g
theorem meets_done {h : Hp} : ∀ (vs : List Int) {M : List Nat} {k : Nat}, Done h M k → k ≤ M.length → Done h (meets h M vs) k
  | [], _, _, d, _ => d
  | v :: vs, M, k, d, hk => by
    refine meets_done vs (d.meet hk v) ?_
    obtain ⟨t, ht⟩ := meetL_pre h M v
    rw [ht, List.length_append]; omega
theorem bfs_met {h : Hp} {rs : List Int} : ∀ (f : Nat) (M : List Nat) (i : Nat), Met h rs M → (∀ v ∈ rs, MetV h M v) → Done h M i → i ≤ M.length → h.objs.length ≤ f + i →
    Met h rs (bfs h f M i) ∧ (∀ v ∈ rs, MetV h (bfs h f M i) v) ∧ Done h (bfs h f M i) (bfs h f M i).length
  | 0, M, i, m, hr, d, hi, hf => by
    have := m.len
    obtain rfl : i = M.length := by omega
    exact ⟨m, hr, d⟩
  | f + 1, M, i, m, hr, d, hi, hf => by
    unfold bfs
    by_cases hlt : i < M.length
    · rw [List.getElem?_eq_getElem hlt]
      have hq := m.lt (List.getElem_mem hlt)
      have ho := List.getElem?_eq_getElem hq
      have he : edges h M[i] = h.objs[M[i]].cls :: h.objs[M[i]].slots := by unfold edges; rw [ho]
      have hreach := m.sound _ (List.getElem_mem hlt)
      obtain ⟨t, ht⟩ := meets_pre h (edges h M[i]) M
      refine bfs_met f _ (i + 1) (meets_met _ m fun v hv hrv => .step _ _ v hreach ho (by rw [← he]; exact hv) hrv) (fun v hv => meets_keep _ (hr v hv)) ?_ (by rw [ht, List.length_append]; omega) (by omega)
      intro j q o hj hjq hoq v hv
      by_cases hji : j < i
      · exact meets_done _ d hi j q o hji hjq hoq v hv
      · obtain rfl : j = i := by omega
        have := meets_get (List.getElem?_eq_getElem hlt) (edges h M[j]) (h := h)
        rw [this] at hjq
        obtain rfl : M[j] = q := Option.some.inj hjq
        rw [ho] at hoq
        obtain rfl := Option.some.inj hoq
        exact meets_all _ v (by rw [he]; exact hv)
    · rw [List.getElem?_eq_none (by omega)]
      obtain rfl : i = M.length := by omega
      exact ⟨m, hr, d⟩
theorem start_met (h : Hp) (rs : List Int) : Met h rs (meets h [] rs) := meets_met rs ⟨List.nodup_nil, fun i hi => by simp at hi⟩ fun v hv hr => .root v hv hr
theorem ord_met (h : Hp) (rs : List Int) : Met h rs (ordN h rs) ∧ (∀ v ∈ rs, MetV h (ordN h rs) v) ∧ Done h (ordN h rs) (ordN h rs).length :=
  bfs_met _ _ 0 (start_met h rs) (fun v hv => meets_all rs v hv) (fun j i o hj => absurd hj (Nat.not_lt_zero _)) (Nat.zero_le _) (by omega)
theorem mem_ordN {h : Hp} {rs : List Int} {i : Nat} : i ∈ ordN h rs ↔ Reach h rs i := by
  obtain ⟨m, hr, d⟩ := ord_met h rs
  exact met_all m hr d i
theorem ordN_nodup (h : Hp) (rs : List Int) : (ordN h rs).Nodup := (ord_met h rs).1.nodup
theorem ordN_le (h : Hp) (rs : List Int) : (ordN h rs).length ≤ h.objs.length := (ord_met h rs).1.len
theorem ordN_lt {h : Hp} {rs : List Int} {i : Nat} (hi : i ∈ ordN h rs) : i < h.objs.length := (mem_ordN.1 hi).lt
/-- values by the numbers of a list -/
def cnV (h : Hp) (M : List Nat) (v : Int) : Int := if refB h.objs.length v = true then 2 * (M.idxOf (atV v).toNat : Int) else v
def cnO (h : Hp) (M : List Nat) (o : Ob) : Ob := { o with cls := cnV h M o.cls, slots := o.slots.map (cnV h M) }
def cnH (h : Hp) (rs : List Int) : Hp := if liE h rs = 0 then ⟨(ordN h rs).map fun q => cnO h (ordN h rs) (h.objs.getD q default), h.cap, h.last⟩ else zeroH
def cnL (h : Hp) (rs : List Int) : List Int := if liE h rs = 0 then rs.map (cnV h (ordN h rs)) else []
/-! ### The same but for numbers -/
inductive All2 {α β : Type} (R : α → β → Prop) : List α → List β → Prop
  | nil : All2 R [] []
  | cons {x : α} {y : β} {l : List α} {m : List β} : R x y → All2 R l m → All2 R (x :: l) (y :: m)
section
variable {α β : Type} {R : α → β → Prop}
theorem All2.len {l : List α} {m : List β} (h : All2 R l m) : l.length = m.length := by
  induction h with
  | nil => rfl
  | cons _ _ ih => rw [List.length_cons, List.length_cons, ih]
theorem All2.app {l l' : List α} {m m' : List β} (h : All2 R l m) (h' : All2 R l' m') : All2 R (l ++ l') (m ++ m') := by
  induction h with
  | nil => exact h'
  | cons a _ ih => exact .cons a ih
theorem All2.get {l : List α} {m : List β} (h : All2 R l m) : ∀ {i : Nat} {x : α} {y : β}, l[i]? = some x → m[i]? = some y → R x y := by
  induction h with
  | nil => intro i x y hx; simp at hx
  | cons a _ ih =>
    intro i x y hx hy
    cases i with
    | zero => simp at hx hy; rw [← hx, ← hy]; exact a
    | succ i => exact ih (by simpa using hx) (by simpa using hy)
theorem All2.of {l : List α} {m : List β} (hl : l.length = m.length) (h : ∀ (i : Nat) (x : α) (y : β), l[i]? = some x → m[i]? = some y → R x y) : All2 R l m := by
  induction l generalizing m with
  | nil => cases m with
    | nil => exact .nil
    | cons y m => simp at hl
  | cons x l ih => cases m with
    | nil => simp at hl
    | cons y m => exact .cons (h 0 x y rfl rfl) (ih (by simpa using hl) fun i u v hu hv => h (i + 1) u v (by simpa using hu) (by simpa using hv))
theorem All2.map_eq {γ : Type} {f : α → γ} {g : β → γ} {l : List α} {m : List β} (h : All2 R l m) (hfg : ∀ x y, R x y → f x = g y) : l.map f = m.map g := by
  induction h with
  | nil => rfl
  | cons a _ ih => rw [List.map_cons, List.map_cons, ih, hfg _ _ a]
theorem All2.turn {l : List α} {m : List β} (h : All2 R l m) : All2 (fun y x => R x y) m l := by
  induction h with
  | nil => exact .nil
  | cons a _ ih => exact .cons a ih
theorem All2.imp {S : α → β → Prop} {l : List α} {m : List β} (h : All2 R l m) (hs : ∀ x y, R x y → S x y) : All2 S l m := by
  induction h with
  | nil => exact .nil
  | cons a _ ih => exact .cons (hs _ _ a) ih
end
/-- two values are the same by a pairing -/
def ValR (a b : Hp) (R : Nat → Nat → Prop) (v w : Int) : Prop :=
  (refB a.objs.length v = false ∧ refB b.objs.length w = false ∧ v = w) ∨ (refB a.objs.length v = true ∧ refB b.objs.length w = true ∧ R (atV v).toNat (atV w).toNat)
structure ObR (a b : Hp) (R : Nat → Nat → Prop) (x y : Ob) : Prop where
  cls : ValR a b R x.cls y.cls
  kind : x.kind = y.kind
  slots : All2 (ValR a b R) x.slots y.slots
  text : x.text = y.text
  bits : x.bits = y.bits
  hash : x.hash = y.hash
structure Pairs (a : Hp) (p : List Int) (b : Hp) (q : List Int) (R : Nat → Nat → Prop) : Prop where
  roots : All2 (ValR a b R) p q
  obs : ∀ i k x y, R i k → a.objs[i]? = some x → b.objs[k]? = some y → ObR a b R x y
  fn : ∀ i k l, R i k → R i l → k = l
  inj : ∀ i j k, R i k → R j k → i = j
def SameP (a : Hp) (p : List Int) (b : Hp) (q : List Int) : Prop := liE a p = 0 ∧ liE b q = 0 ∧ ∃ R, Pairs a p b q R
section
variable {a b : Hp} {p q : List Int} {R : Nat → Nat → Prop}
theorem all2_mem (hf : ∀ i k l, R i k → R i l → k = l) (hi : ∀ i j k, R i k → R j k → i = j) {M N : List Nat} (h : All2 R M N) {i k : Nat} (hr : R i k) : i ∈ M ↔ k ∈ N := by
  induction h with
  | nil => simp
  | cons h1 _ ih =>
    simp only [List.mem_cons, ih]
    constructor
    · rintro (g | g)
      · exact .inl (hf _ _ _ hr (g ▸ h1))
      · exact .inr g
    · rintro (g | g)
      · exact .inl (hi _ _ _ hr (g ▸ h1))
      · exact .inr g
theorem all2_idx (hf : ∀ i k l, R i k → R i l → k = l) (hi : ∀ i j k, R i k → R j k → i = j) {M N : List Nat} (h : All2 R M N) {i k : Nat} (hr : R i k) : M.idxOf i = N.idxOf k := by
  induction h with
  | nil => rfl
  | @cons x y M N h1 _ ih =>
    rw [List.idxOf_cons, List.idxOf_cons, ih]
    have : (x == i) = (y == k) := by
      by_cases g : x = i
      · have : y = k := hf _ _ _ (g ▸ h1) hr
        simp [g, this]
      · have : ¬ y = k := fun e => g (hi _ _ _ h1 (e ▸ hr))
        rw [beq_eq_false_iff_ne.2 g, beq_eq_false_iff_ne.2 this]
    rw [this]
theorem meet_two (P : Pairs a p b q R) {M N : List Nat} (h : All2 R M N) {v w : Int} (hv : ValR a b R v w) : All2 R (meetL a M v) (meetL b N w) := by
  unfold meetL
  rcases hv with ⟨h1, h2, -⟩ | ⟨h1, h2, h3⟩
  · rw [if_neg (by rw [h1]; simp), if_neg (by rw [h2]; simp)]; exact h
  · have := all2_mem P.fn P.inj h h3
    by_cases g : (atV v).toNat ∈ M
    · rw [if_neg (by simp [g]), if_neg (by simp [this.1 g])]; exact h
    · rw [if_pos ⟨h1, g⟩, if_pos ⟨h2, fun k => g (this.2 k)⟩]
      exact h.app (.cons h3 .nil)
theorem meets_two (P : Pairs a p b q R) {vs ws : List Int} (hv : All2 (ValR a b R) vs ws) : ∀ {M N : List Nat}, All2 R M N → All2 R (meets a M vs) (meets b N ws) := by
  induction hv with
  | nil => intro M N h; exact h
  | cons h1 _ ih => intro M N h; exact ih (meet_two P h h1)
theorem edges_two (P : Pairs a p b q R) {i k : Nat} (hr : R i k) (hi : i < a.objs.length) (hk : k < b.objs.length) : All2 (ValR a b R) (edges a i) (edges b k) := by
  have h1 := List.getElem?_eq_getElem hi
  have h2 := List.getElem?_eq_getElem hk
  have o := P.obs i k _ _ hr h1 h2
  unfold edges
  rw [h1, h2]
  exact .cons o.cls o.slots
theorem bfs_two (P : Pairs a p b q R) : ∀ (f g : Nat) {M N : List Nat} (i : Nat), All2 R M N → Met a p M → Met b q N → (∀ v ∈ p, MetV a M v) → (∀ v ∈ q, MetV b N v) → Done a M i → Done b N i → i ≤ M.length → a.objs.length ≤ f + i → b.objs.length ≤ g + i →
    All2 R (bfs a f M i) (bfs b g N i)
  | f, g, M, N, i, h, ma, mb, ra, rb, da, db, hi, hf, hg => by
    have hlen := h.len
    by_cases hlt : i < M.length
    · have hltN : i < N.length := by omega
      have hla := ma.len
      have hlb := mb.len
      obtain ⟨f', rfl⟩ : ∃ f', f = f' + 1 := ⟨f - 1, by omega⟩
      obtain ⟨g', rfl⟩ : ∃ g', g = g' + 1 := ⟨g - 1, by omega⟩
      have e1 := List.getElem?_eq_getElem hlt
      have e2 := List.getElem?_eq_getElem hltN
      have hr := h.get e1 e2
      have hqa := ma.lt (List.getElem_mem hlt)
      have hqb := mb.lt (List.getElem_mem hltN)
      have E := edges_two P hr hqa hqb
      have step : ∀ (c : Hp) (rs : List Int) (L : List Nat) (hlL : i < L.length), Met c rs L → (∀ v ∈ rs, MetV c L v) → Done c L i → L[i] < c.objs.length →
          Met c rs (meets c L (edges c L[i])) ∧ (∀ v ∈ rs, MetV c (meets c L (edges c L[i])) v) ∧ Done c (meets c L (edges c L[i])) (i + 1) ∧ i + 1 ≤ (meets c L (edges c L[i])).length := by
        intro c rs L hlL m hr d hq
        have ho := List.getElem?_eq_getElem hq
        have he : edges c L[i] = c.objs[L[i]].cls :: c.objs[L[i]].slots := by unfold edges; rw [ho]
        have hreach := m.sound _ (List.getElem_mem hlL)
        obtain ⟨t, ht⟩ := meets_pre c (edges c L[i]) L
        refine ⟨meets_met _ m fun v hv hrv => .step _ _ v hreach ho (by rw [← he]; exact hv) hrv, fun v hv => meets_keep _ (hr v hv), ?_, by rw [ht, List.length_append]; omega⟩
        intro j z o hj hjq hoq v hv
        by_cases hji : j < i
        · exact meets_done _ d (by omega) j z o hji hjq hoq v hv
        · obtain rfl : j = i := by omega
          have := meets_get (List.getElem?_eq_getElem hlL) (edges c L[j]) (h := c)
          rw [this] at hjq
          obtain rfl : L[j] = z := Option.some.inj hjq
          rw [ho] at hoq
          obtain rfl := Option.some.inj hoq
          exact meets_all _ v (by rw [he]; exact hv)
      obtain ⟨a1, a2, a3, a4⟩ := step a p M hlt ma ra da hqa
      obtain ⟨b1, b2, b3, b4⟩ := step b q N hltN mb rb db hqb
      unfold bfs
      rw [e1, e2]
      exact bfs_two P f' g' (i + 1) (meets_two P E h) a1 b1 a2 b2 a3 b3 a4 (by omega) (by omega)
    · have n1 : M[i]? = none := List.getElem?_eq_none (by omega)
      have n2 : N[i]? = none := List.getElem?_eq_none (by omega)
      have s1 : bfs a f M i = M := by cases f with
        | zero => rfl
        | succ f => unfold bfs; rw [n1]
      have s2 : bfs b g N i = N := by cases g with
        | zero => rfl
        | succ g => unfold bfs; rw [n2]
      rw [s1, s2]; exact h
  termination_by f => f
theorem ord_two (P : Pairs a p b q R) : All2 R (ordN a p) (ordN b q) :=
  bfs_two P _ _ 0 (meets_two P P.roots .nil) (start_met a p) (start_met b q) (fun v hv => meets_all p v hv) (fun v hv => meets_all q v hv) (fun j i o hj => absurd hj (Nat.not_lt_zero _)) (fun j i o hj => absurd hj (Nat.not_lt_zero _)) (Nat.zero_le _) (by omega) (by omega)
/-- by a pairing, values have the same numbers -/
theorem cnV_two (P : Pairs a p b q R) {v w : Int} (h : ValR a b R v w) : cnV a (ordN a p) v = cnV b (ordN b q) w := by
  unfold cnV
  rcases h with ⟨h1, h2, h3⟩ | ⟨h1, h2, h3⟩
  · rw [if_neg (by rw [h1]; decide), if_neg (by rw [h2]; decide), h3]
  · rw [if_pos h1, if_pos h2, all2_idx P.fn P.inj (ord_two P) h3]
theorem cnO_two (P : Pairs a p b q R) {x y : Ob} (h : ObR a b R x y) : cnO a (ordN a p) x = cnO b (ordN b q) y := by
  unfold cnO
  rw [cnV_two P h.cls, h.slots.map_eq fun v w hv => cnV_two P hv]
  obtain ⟨xc, xk, xs, xt, xb, xh⟩ := x
  obtain ⟨yc, yk, ys, yt, yb, yh⟩ := y
  have h1 := h.kind
  have h2 := h.text
  have h3 := h.bits
  have h4 := h.hash
  simp only at h1 h2 h3 h4
  subst h1 h2 h3 h4
  rfl
end
/-- the same but for numbers are told the same -/
theorem same_told {a b : Hp} {p q : List Int} (h : SameP a p b q) : (cnH a p).objs = (cnH b q).objs ∧ cnL a p = cnL b q := by
  obtain ⟨ha, hb, R, P⟩ := h
  have hO := ord_two P
  unfold cnH cnL
  rw [if_pos ha, if_pos hb, if_pos ha, if_pos hb]
  constructor
  · show (ordN a p).map _ = (ordN b q).map _
    have key : All2 (fun i k => i < a.objs.length ∧ k < b.objs.length ∧ R i k) (ordN a p) (ordN b q) := All2.of hO.len fun i x y hx hy => ⟨ordN_lt (List.mem_of_getElem? hx), ordN_lt (List.mem_of_getElem? hy), hO.get hx hy⟩
    refine key.map_eq fun i k hik => ?_
    obtain ⟨h1, h2, h3⟩ := hik
    have e1 := List.getElem?_eq_getElem h1
    have e2 := List.getElem?_eq_getElem h2
    rw [List.getD_eq_getElem?_getD, List.getD_eq_getElem?_getD, e1, e2]
    exact cnO_two P (P.obs i k _ _ h3 e1 e2)
  · exact P.roots.map_eq fun v w hv => cnV_two P hv
end Go.Proofs.Ytnilempeldlieaa
namespace Go.Proofs.Ytnilempeldlieaa
open Go.RowKit
theorem cn_small {h : Hp} {M : List Nat} {v : Int} (hr : refB h.objs.length v = false) : cnV h M v = v := by
  unfold cnV; rw [if_neg (by rw [hr]; decide)]
theorem cn_ref {h : Hp} {M : List Nat} {v : Int} (hr : refB h.objs.length v = true) : cnV h M v = 2 * (M.idxOf (atV v).toNat : Int) := by
  unfold cnV; rw [if_pos hr]
theorem cnH_no {h : Hp} {rs : List Int} (e : liE h rs ≠ 0) : cnH h rs = zeroH := by unfold cnH; rw [if_neg e]
theorem cnL_no {h : Hp} {rs : List Int} (e : liE h rs ≠ 0) : cnL h rs = [] := by unfold cnL; rw [if_neg e]
theorem cnL_yes {h : Hp} {rs : List Int} (e : liE h rs = 0) : cnL h rs = rs.map (cnV h (ordN h rs)) := by unfold cnL; rw [if_pos e]
theorem cn_objs {h : Hp} {rs : List Int} (e : liE h rs = 0) : (cnH h rs).objs = (ordN h rs).map fun q => cnO h (ordN h rs) (h.objs.getD q default) := by
  unfold cnH; rw [if_pos e]
theorem cn_caps {h : Hp} {rs : List Int} (e : liE h rs = 0) : (cnH h rs).cap = h.cap ∧ (cnH h rs).last = h.last := by
  unfold cnH; rw [if_pos e]; exact ⟨rfl, rfl⟩
theorem cn_len {h : Hp} {rs : List Int} (e : liE h rs = 0) : (cnH h rs).objs.length = (ordN h rs).length := by rw [cn_objs e, List.length_map]
theorem cn_get {h : Hp} {rs : List Int} (e : liE h rs = 0) {k i : Nat} (hk : (ordN h rs)[k]? = some i) : ∃ o, h.objs[i]? = some o ∧ (cnH h rs).objs[k]? = some (cnO h (ordN h rs) o) := by
  have hi := ordN_lt (List.mem_of_getElem? hk)
  refine ⟨_, List.getElem?_eq_getElem hi, ?_⟩
  rw [cn_objs e, List.getElem?_map, hk]
  simp only [Option.map_some]
  rw [List.getD_eq_getElem?_getD, List.getElem?_eq_getElem hi]; rfl
/-- v is a value of the heap, and what it is the ref of is met -/
def MeetV (h : Hp) (rs : List Int) (v : Int) : Prop := hasB h.objs.length v = true ∧ (refB h.objs.length v = true → (atV v).toNat ∈ ordN h rs)
theorem meet_root {h : Hp} {rs : List Int} (e : liE h rs = 0) {v : Int} (hv : v ∈ rs) : MeetV h rs v :=
  ⟨(li_ok e).2.1 v hv, fun hr => mem_ordN.2 (.root v hv hr)⟩
theorem meet_step {h : Hp} {rs : List Int} (e : liE h rs = 0) {i : Nat} (hi : i ∈ ordN h rs) {o : Ob} (ho : h.objs[i]? = some o) {v : Int} (hv : v ∈ o.cls :: o.slots) : MeetV h rs v := by
  obtain ⟨h1, h2⟩ := ob_vals (may_all (li_ok e).1 _ (List.mem_of_getElem? ho))
  refine ⟨?_, fun hr => mem_ordN.2 (.step i o v (mem_ordN.1 hi) ho hv hr)⟩
  rcases List.mem_cons.1 hv with g | g
  · rw [g]; exact ref_has h1
  · exact h2 v g
/-- a value that is met, and it by its new number -/
theorem cn_val {h : Hp} {rs : List Int} (e : liE h rs = 0) {v : Int} (hl : MeetV h rs v) :
    ValR h (cnH h rs) (fun i k => (ordN h rs)[k]? = some i) v (cnV h (ordN h rs) v) := by
  have h256 := may_len (li_ok e).1
  have hle := ordN_le h rs
  cases hr : refB h.objs.length v
  · have hn := has_not hl.1 hr
    rw [cn_small hr]
    refine .inl ⟨hr, ?_, rfl⟩
    cases hc : refB (cnH h rs).objs.length v
    · rfl
    · rw [nB_no hc] at hn; cases hn
  · have hi := hl.2 hr
    have hx : (ordN h rs).idxOf (atV v).toNat < (ordN h rs).length := List.idxOf_lt_length_iff.2 hi
    obtain ⟨r1, r2⟩ := ref_two (n := (cnH h rs).objs.length) (by rw [cn_len e]; omega) (by rw [cn_len e]; exact hx)
    rw [cn_ref hr]
    refine .inr ⟨hr, r1, ?_⟩
    show (ordN h rs)[(atV (2 * ((ordN h rs).idxOf (atV v).toNat : Int))).toNat]? = _
    rw [r2]
    show (ordN h rs)[(ordN h rs).idxOf (atV v).toNat]? = _
    rw [List.getElem?_eq_getElem hx, List.getElem_idxOf hx]
theorem all2_map {α β : Type} {R : α → β → Prop} {f : α → β} : ∀ {l : List α}, (∀ x ∈ l, R x (f x)) → All2 R l (l.map f)
  | [], _ => .nil
  | x :: l, h => .cons (h x (by simp)) (all2_map fun y hy => h y (List.mem_cons_of_mem _ hy))
/-- a heap and what is told of it are the same -/
theorem cn_pairs {h : Hp} {rs : List Int} (e : liE h rs = 0) : Pairs h rs (cnH h rs) (cnL h rs) (fun i k => (ordN h rs)[k]? = some i) where
  roots := by
    rw [cnL_yes e]
    exact all2_map fun v hv => cn_val e (meet_root e hv)
  obs := fun i k x y hr hx hy => by
    obtain ⟨o, h1, h2⟩ := cn_get e hr
    rw [hx] at h1; rw [hy] at h2
    obtain rfl := Option.some.inj h1
    obtain rfl := Option.some.inj h2
    have hi := List.mem_of_getElem? hr
    exact ⟨cn_val e (meet_step e hi hx (List.mem_cons_self ..)), rfl, all2_map fun v hv => cn_val e (meet_step e hi hx (List.mem_cons_of_mem _ hv)), rfl, rfl, rfl⟩
  fn := fun i k l hk hl => by
    obtain ⟨h1, h2⟩ := List.getElem?_eq_some_iff.1 hk
    obtain ⟨h3, h4⟩ := List.getElem?_eq_some_iff.1 hl
    rw [← idx_get (ordN_nodup h rs) h1, ← idx_get (ordN_nodup h rs) h3, h2, h4]
  inj := fun i j k hk hl => Option.some.inj (hk.symm.trans hl)
theorem kiB_cn (h : Hp) (M : List Nat) (o : Ob) : kiB (cnO h M o) = kiB o := by
  obtain ⟨cl, ki, sl, te, bi, ha⟩ := o
  cases sl with
  | nil => rfl
  | cons a l =>
    unfold kiB
    simp only [cnO, List.map_cons, List.length_cons, List.length_map]
    rfl
theorem cn_has {h : Hp} {rs : List Int} (e : liE h rs = 0) {v : Int} (hl : MeetV h rs v) : hasB (cnH h rs).objs.length (cnV h (ordN h rs) v) = true ∧ refB (cnH h rs).objs.length (cnV h (ordN h rs) v) = refB h.objs.length v := by
  rcases cn_val e hl with ⟨h1, h2, h3⟩ | ⟨h1, h2, -⟩
  · rw [h1, h2]
    refine ⟨?_, rfl⟩
    rw [← h3]
    unfold hasB; rw [has_not hl.1 h1]; rfl
  · rw [h1, h2]
    exact ⟨by unfold hasB; rw [h2, Bool.or_true], rfl⟩
theorem cn_ob {h : Hp} {rs : List Int} (e : liE h rs = 0) {i : Nat} (hi : i ∈ ordN h rs) {o : Ob} (ho : h.objs[i]? = some o) : obB (cnH h rs).objs.length (cnO h (ordN h rs) o) = true := by
  have hob := may_all (li_ok e).1 _ (List.mem_of_getElem? ho)
  obtain ⟨h1, h2⟩ := ob_vals hob
  unfold obB at hob ⊢
  simp only [Bool.and_eq_true] at hob ⊢
  obtain ⟨⟨⟨-, hh⟩, hk⟩, -⟩ := hob
  refine ⟨⟨⟨?_, hh⟩, ?_⟩, ?_⟩
  · have := (cn_has e (meet_step e hi ho (v := o.cls) (by simp))).2
    rw [h1] at this
    exact this
  · rw [kiB_cn]; exact hk
  · refine List.all_eq_true.2 fun y hy => ?_
    obtain ⟨v, hv, rfl⟩ := List.mem_map.1 hy
    exact (cn_has e (meet_step e hi ho (List.mem_cons_of_mem _ hv))).1
theorem cn_may {h : Hp} {rs : List Int} (e : liE h rs = 0) : mayB (cnH h rs) = true := by
  have hm := (li_ok e).1
  have hle := ordN_le h rs
  have hl := cn_len e
  have hall : ∀ o ∈ (cnH h rs).objs, obB (cnH h rs).objs.length o = true := fun o ho => by
    obtain ⟨k, hk, rfl⟩ := List.getElem_of_mem ho
    have hk' : k < (ordN h rs).length := by omega
    obtain ⟨o, h1, h2⟩ := cn_get e (List.getElem?_eq_getElem hk')
    rw [List.getElem?_eq_getElem hk] at h2
    rw [Option.some.inj h2]
    exact cn_ob e (List.getElem_mem hk') h1
  have hc := cn_caps e
  unfold mayB at hm ⊢
  rw [hc.1, hc.2]
  simp only [Bool.and_eq_true, decide_eq_true_eq] at hm ⊢
  exact ⟨⟨⟨hm.1.1.1, hm.1.1.2.1, by omega⟩, hm.1.2⟩, List.all_eq_true.2 hall⟩
theorem cn_liE {h : Hp} {rs : List Int} (e : liE h rs = 0) : liE (cnH h rs) (cnL h rs) = 0 := by
  unfold liE
  rw [if_pos (cn_may e), if_pos]
  refine List.all_eq_true.2 fun y hy => ?_
  rw [cnL_yes e] at hy
  obtain ⟨v, hv, rfl⟩ := List.mem_map.1 hy
  exact (cn_has e (meet_root e hv)).1
theorem cn_same {h : Hp} {rs : List Int} (e : liE h rs = 0) : SameP h rs (cnH h rs) (cnL h rs) := ⟨e, cn_liE e, _, cn_pairs e⟩
/-! ### Being the same -/
theorem ValR.turn {a b : Hp} {R : Nat → Nat → Prop} {v w : Int} (h : ValR a b R v w) : ValR b a (fun k i => R i k) w v := by
  rcases h with ⟨h1, h2, h3⟩ | ⟨h1, h2, h3⟩
  · exact .inl ⟨h2, h1, h3.symm⟩
  · exact .inr ⟨h2, h1, h3⟩
theorem ObR.turn {a b : Hp} {R : Nat → Nat → Prop} {x y : Ob} (h : ObR a b R x y) : ObR b a (fun k i => R i k) y x :=
  ⟨h.cls.turn, h.kind.symm, h.slots.turn.imp fun _ _ g => g.turn, h.text.symm, h.bits.symm, h.hash.symm⟩
theorem Pairs.turn {a b : Hp} {p q : List Int} {R : Nat → Nat → Prop} (P : Pairs a p b q R) : Pairs b q a p (fun k i => R i k) :=
  ⟨P.roots.turn.imp fun _ _ g => g.turn, fun i k x y hr hx hy => (P.obs k i y x hr hy hx).turn, fun i k l hk hl => P.inj k l i hk hl, fun i j k hi hj => P.fn k i j hi hj⟩
theorem SameP.turn {a b : Hp} {p q : List Int} (h : SameP a p b q) : SameP b q a p := by
  obtain ⟨ha, hb, R, P⟩ := h
  exact ⟨hb, ha, _, P.turn⟩
/-- one pairing, then another one -/
def thenR (b : Hp) (R S : Nat → Nat → Prop) (i l : Nat) : Prop := ∃ k, k < b.objs.length ∧ R i k ∧ S k l
theorem ValR.then {a b c : Hp} {R S : Nat → Nat → Prop} {u v w : Int} (h : ValR a b R u v) (g : ValR b c S v w) : ValR a c (thenR b R S) u w := by
  rcases h with ⟨h1, h2, h3⟩ | ⟨h1, h2, h3⟩ <;> rcases g with ⟨g1, g2, g3⟩ | ⟨g1, g2, g3⟩
  · exact .inl ⟨h1, g2, h3.trans g3⟩
  · rw [h2] at g1; cases g1
  · rw [h2] at g1; cases g1
  · exact .inr ⟨h1, g2, _, (refB_nat h2).1, h3, g3⟩
theorem All2.then {α β γ : Type} {R : α → β → Prop} {S : β → γ → Prop} {T : α → γ → Prop} (hT : ∀ x y z, R x y → S y z → T x z) {l : List α} {m : List β} (h : All2 R l m) : ∀ {n : List γ}, All2 S m n → All2 T l n := by
  induction h with
  | nil => intro n g; cases g; exact .nil
  | cons a _ ih => intro n g; cases g with | cons b g => exact .cons (hT _ _ _ a b) (ih g)
theorem ObR.then {a b c : Hp} {R S : Nat → Nat → Prop} {x y z : Ob} (h : ObR a b R x y) (g : ObR b c S y z) : ObR a c (thenR b R S) x z :=
  ⟨h.cls.then g.cls, h.kind.trans g.kind, h.slots.then (fun _ _ _ h g => h.then g) g.slots, h.text.trans g.text, h.bits.trans g.bits, h.hash.trans g.hash⟩
theorem Pairs.then {a b c : Hp} {p q r : List Int} {R S : Nat → Nat → Prop} (P : Pairs a p b q R) (Q : Pairs b q c r S) : Pairs a p c r (thenR b R S) where
  roots := P.roots.then (fun _ _ _ h g => h.then g) Q.roots
  obs := fun i l x z ⟨k, hk, h, g⟩ hx hz => (P.obs i k x _ h hx (List.getElem?_eq_getElem hk)).then (Q.obs k l _ z g (List.getElem?_eq_getElem hk) hz)
  fn := fun i k l ⟨j, _, h1, h2⟩ ⟨j', _, h3, h4⟩ => by
    obtain rfl := P.fn i j j' h1 h3
    exact Q.fn _ _ _ h2 h4
  inj := fun i j k ⟨l, _, h1, h2⟩ ⟨l', _, h3, h4⟩ => by
    obtain rfl := Q.inj l l' k h2 h4
    exact P.inj _ _ _ h1 h3
theorem SameP.then {a b c : Hp} {p q r : List Int} (h : SameP a p b q) (g : SameP b q c r) : SameP a p c r := by
  obtain ⟨h1, h2, R, P⟩ := h
  obtain ⟨g1, g2, S, Q⟩ := g
  exact ⟨h1, g2, _, P.then Q⟩
theorem SameP.self {h : Hp} {rs : List Int} (e : liE h rs = 0) : SameP h rs h rs := (cn_same e).then (cn_same e).turn
/-- Cap and Last do not count -/
theorem Pairs.objs {a b c : Hp} {p q : List Int} {R : Nat → Nat → Prop} (P : Pairs a p b q R) (e : b.objs = c.objs) : Pairs a p c q R := by
  have hv : ∀ v w, ValR a b R v w → ValR a c R v w := fun v w h => by unfold ValR at h ⊢; rwa [← e]
  exact ⟨P.roots.imp hv, fun i k x y hr hx hy => by
    have o := P.obs i k x y hr hx (by rw [e]; exact hy)
    exact ⟨hv _ _ o.cls, o.kind, o.slots.imp hv, o.text, o.bits, o.hash⟩, P.fn, P.inj⟩
/-- told the same they are the same -/
theorem told_same {a b : Hp} {p q : List Int} (ha : liE a p = 0) (hb : liE b q = 0) (e : (cnH a p).objs = (cnH b q).objs) (f : cnL a p = cnL b q) : SameP a p b q := by
  have P := (cn_pairs ha).objs e
  rw [f] at P
  exact ⟨ha, hb, _, P.then (cn_pairs hb).turn⟩
theorem same_iff {a b : Hp} {p q : List Int} : SameP a p b q ↔ liE a p = 0 ∧ liE b q = 0 ∧ (cnH a p).objs = (cnH b q).objs ∧ cnL a p = cnL b q :=
  ⟨fun h => ⟨h.1, h.2.1, same_told h⟩, fun ⟨h1, h2, h3, h4⟩ => told_same h1 h2 h3 h4⟩
/-- told of itself it is as it is -/
theorem cn_again {h : Hp} {rs : List Int} (e : liE h rs = 0) : cnH (cnH h rs) (cnL h rs) = cnH h rs ∧ cnL (cnH h rs) (cnL h rs) = cnL h rs := by
  obtain ⟨h1, h2⟩ := same_told (cn_same e)
  have c1 := cn_caps e
  have c2 := cn_caps (cn_liE e)
  refine ⟨?_, h2.symm⟩
  cases hc : cnH (cnH h rs) (cnL h rs) with
  | mk os cp la =>
    rw [hc] at h1 c2
    cases hd : cnH h rs with
    | mk os' cp' la' =>
      rw [hd] at h1 c2
      simp only at h1 c2
      rw [h1, c2.1, c2.2]
theorem all2_mem_right {α β : Type} {R : α → β → Prop} {l : List α} {m : List β} (h : All2 R l m) : ∀ x ∈ l, ∃ y ∈ m, R x y := by
  induction h with
  | nil => intro x hx; simp at hx
  | cons a _ ih =>
    intro x hx
    rcases List.mem_cons.1 hx with g | g
    · exact ⟨_, List.mem_cons_self .., g ▸ a⟩
    · obtain ⟨y, hy, r⟩ := ih x g
      exact ⟨y, List.mem_cons_of_mem _ hy, r⟩
/-- all that is told is reached -/
theorem cn_reach {h : Hp} {rs : List Int} (e : liE h rs = 0) {k : Nat} (hk : k < (cnH h rs).objs.length) : Reach (cnH h rs) (cnL h rs) k := by
  have O := ord_two (cn_pairs e)
  rw [cn_len e] at hk
  obtain ⟨l, hl, hr⟩ := all2_mem_right O _ (List.getElem_mem hk)
  have : l = k := (cn_pairs e).fn _ _ _ hr (List.getElem?_eq_getElem hk)
  rw [← this]
  exact mem_ordN.1 hl
theorem cn_liveN {h : Hp} {rs : List Int} (e : liE h rs = 0) : liveN (cnH h rs) (cnL h rs) = List.range (cnH h rs).objs.length := by
  unfold liveN
  refine List.filter_eq_self.2 fun k hk => ?_
  have := cn_reach e (List.mem_range.1 hk)
  simpa using this
theorem cn_live {h : Hp} {rs : List Int} (e : liE h rs = 0) : (liL (cnH h rs) (cnL h rs)).length = (cnH h rs).objs.length := by
  rw [(li_ok (cn_liE e)).2.2, liveL_length, cn_liveN e, List.length_range]
/-! ### Each root twice -/
theorem liE_twice (h : Hp) (rs : List Int) : liE h (rs ++ rs) = liE h rs := by
  unfold liE; rw [List.all_append, Bool.and_self]
theorem All2.half {α β : Type} {R : α → β → Prop} : ∀ {l : List α} {m : List β} {l' : List α} {m' : List β}, l.length = m.length → All2 R (l ++ l') (m ++ m') → All2 R l m
  | [], [], _, _, _, _ => .nil
  | [], _ :: _, _, _, h, _ => by simp at h
  | _ :: _, [], _, _, h, _ => by simp at h
  | _ :: l, _ :: m, _, _, h, g => by
    cases g with | cons a g => exact .cons a (All2.half (by simpa using h) g)
theorem same_twice {a b : Hp} {p q : List Int} : SameP a (p ++ p) b (q ++ q) ↔ SameP a p b q := by
  unfold SameP
  rw [liE_twice, liE_twice]
  constructor
  · rintro ⟨h1, h2, R, P⟩
    have := P.roots.len
    rw [List.length_append, List.length_append] at this
    exact ⟨h1, h2, R, P.roots.half (by omega), P.obs, P.fn, P.inj⟩
  · rintro ⟨h1, h2, R, P⟩
    exact ⟨h1, h2, R, P.roots.app P.roots, P.obs, P.fn, P.inj⟩
end Go.Proofs.Ytnilempeldlieaa
