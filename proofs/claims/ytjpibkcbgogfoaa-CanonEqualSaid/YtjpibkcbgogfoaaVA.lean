/- Compaction over plain heaps: new numbers, values by a table, the heap that is left. -/
import Derived.Test.YtjpibkcbgogfoaaMP
import Derived.Test.YtjpibkcbgogfoaaMY
import Derived.Test.YtjpibkcbgogfoaaU
namespace Go.Proofs.Ytjpibkcbgogfoaa
open Go.RowKit
/-- has v a value by the table; which -/
def vaB (t : List Int) (v : Int) : Bool := nB v || (atB v && decide (atV v < t.length) && nuB (t.getD (atV v).toNat 0))
def vaV (t : List Int) (v : Int) : Int := if nB v then v else if atB v && decide (atV v < t.length) then reV (t.getD (atV v).toNat 0) else 0
/-- an object whose values are those by the table -/
def moO (t : List Int) (o : Ob) : Ob := { o with cls := vaV t o.cls, slots := o.slots.map (vaV t) }
/-- of the first k objects those that have a number in the table -/
def kept (t : List Int) (k : Nat) : List Nat := (List.range k).filter fun i => decide (0 ≤ t.getD i (-1))
def obsK (h : Hp) (t : List Int) (k : Nat) : List Ob := (kept t k).map fun i => moO t (h.objs.getD i default)
/-- the number of i, if it is one of the first k of L -/
def newK (L : List Nat) (k i : Nat) : Int := if L.idxOf i < k then (L.idxOf i : Int) else -1
noncomputable def tabL (h : Hp) (rs : List Int) : List Int := if liE h rs = 0 then (List.range h.objs.length).map (newK (liveN h rs) (liveN h rs).length) else []
noncomputable def coH (h : Hp) (rs : List Int) : Hp := if liE h rs = 0 then ⟨obsK h (tabL h rs) h.objs.length, h.cap, h.last⟩ else zeroH
noncomputable def coL (h : Hp) (rs : List Int) : List Int := if liE h rs = 0 then rs.map (vaV (tabL h rs)) else []
theorem tabL_no {h : Hp} {rs : List Int} (e : liE h rs ≠ 0) : tabL h rs = [] := by unfold tabL; rw [if_neg e]
theorem coH_no {h : Hp} {rs : List Int} (e : liE h rs ≠ 0) : coH h rs = zeroH := by unfold coH; rw [if_neg e]
theorem coL_no {h : Hp} {rs : List Int} (e : liE h rs ≠ 0) : coL h rs = [] := by unfold coL; rw [if_neg e]
theorem tabL_yes {h : Hp} {rs : List Int} (e : liE h rs = 0) : tabL h rs = (List.range h.objs.length).map (newK (liveN h rs) (liveN h rs).length) := by unfold tabL; rw [if_pos e]
theorem coH_yes {h : Hp} {rs : List Int} (e : liE h rs = 0) : coH h rs = ⟨obsK h (tabL h rs) h.objs.length, h.cap, h.last⟩ := by unfold coH; rw [if_pos e]
theorem coL_yes {h : Hp} {rs : List Int} (e : liE h rs = 0) : coL h rs = rs.map (vaV (tabL h rs)) := by unfold coL; rw [if_pos e]
theorem tabL_len {h : Hp} {rs : List Int} (e : liE h rs = 0) : (tabL h rs).length = h.objs.length := by rw [tabL_yes e]; simp
theorem tabL_le (h : Hp) (rs : List Int) : (tabL h rs).length ≤ h.objs.length := by
  by_cases e : liE h rs = 0
  · exact Nat.le_of_eq (tabL_len e)
  · rw [tabL_no e]; exact Nat.zero_le _
theorem coL_le (h : Hp) (rs : List Int) : (coL h rs).length ≤ rs.length := by
  by_cases e : liE h rs = 0
  · rw [coL_yes e]; simp
  · rw [coL_no e]; exact Nat.zero_le _
theorem li_ok {h : Hp} {rs : List Int} (e : liE h rs = 0) : mayB h = true ∧ (∀ v ∈ rs, hasB h.objs.length v = true) ∧ liL h rs = liveL h rs := by
  refine ⟨?_, ?_, by unfold liL; rw [if_pos e]⟩
  · cases hm : mayB h
    · unfold liE at e; rw [hm] at e; simp at e
    · rfl
  · unfold liE at e
    split at e
    · split at e
      · rename_i h1; exact List.all_eq_true.1 h1
      · cases e
    · cases e
theorem idx_get {L : List Nat} (hn : L.Nodup) {k : Nat} (hk : k < L.length) : L.idxOf L[k] = k := hn.idxOf_getElem k hk
theorem sorted_nodup {L : List Nat} (h : L.Pairwise (· < ·)) : L.Nodup := h.imp fun hab e => by omega
theorem liveN_nodup (h : Hp) (rs : List Int) : (liveN h rs).Nodup := sorted_nodup (liveN_sorted h rs)
theorem liveN_lt {h : Hp} {rs : List Int} {i : Nat} (hi : i ∈ liveN h rs) : i < h.objs.length := (mem_liveN.1 hi).lt
theorem newK_in {L : List Nat} {i : Nat} (hi : i ∈ L) : newK L L.length i = (L.idxOf i : Int) := by
  unfold newK; rw [if_pos (List.idxOf_lt_length_iff.2 hi)]
theorem newK_out {L : List Nat} {i : Nat} (hi : i ∉ L) : newK L L.length i = -1 := by
  unfold newK; rw [if_neg fun h => hi (List.idxOf_lt_length_iff.1 h)]
theorem newK_zero (L : List Nat) (i : Nat) : newK L 0 i = -1 := by unfold newK; rw [if_neg (Nat.not_lt_zero _)]
/-- one more of those that are reached has its number written -/
theorem newK_step {L : List Nat} (hn : L.Nodup) {n k : Nat} (hk : k < L.length) : ((List.range n).map (newK L k)).set L[k] (k : Int) = (List.range n).map (newK L (k + 1)) := by
  apply List.ext_getElem?
  intro j
  rw [List.getElem?_set, List.getElem?_map, List.getElem?_map, List.length_map, List.length_range]
  by_cases hj : j < n
  · rw [List.getElem?_range hj]
    simp only [Option.map_some]
    by_cases e : L[k] = j
    · rw [if_pos e, if_pos (by omega)]
      have : L.idxOf j = k := by rw [← e]; exact idx_get hn hk
      unfold newK; rw [this, if_pos (Nat.lt_succ_self k)]
    · rw [if_neg e]
      unfold newK
      have : L.idxOf j ≠ k := fun g => e (by
        have hm : L.idxOf j < L.length := by omega
        have := List.getElem_idxOf hm
        simp only [g] at this
        exact this)
      by_cases g : L.idxOf j < k
      · rw [if_pos g, if_pos (by omega)]
      · rw [if_neg g, if_neg (by omega)]
  · have h1 : (List.range n)[j]? = none := List.getElem?_eq_none (by simp; omega)
    rw [h1]
    by_cases e : L[k] = j
    · rw [if_pos e, if_neg (by omega)]; rfl
    · rw [if_neg e]; rfl
/-- how many of a list are less -/
def plI (L : List Int) (x : Int) : Nat := (L.filter fun y => decide (y < x)).length
theorem plI_le (L : List Int) (x : Int) : plI L x ≤ L.length := List.length_filter_le _ _
theorem idx_sorted : ∀ (L : List Nat), L.Pairwise (· < ·) → ∀ i ∈ L, (L.filter fun y => decide (y < i)).length = L.idxOf i
  | [], _, i, hi => by simp at hi
  | a :: L, h, i, hi => by
    rw [List.pairwise_cons] at h
    by_cases e : a = i
    · subst e
      have : L.filter (fun y => decide (y < a)) = [] := List.filter_eq_nil_iff.2 fun y hy => by have := h.1 y hy; simp; omega
      rw [List.filter_cons_of_neg (by simp), this]
      simp
    · have hi' : i ∈ L := by rcases List.mem_cons.1 hi with g | g; exact absurd g.symm e; exact g
      have := h.1 i hi'
      rw [List.filter_cons_of_pos (by simpa using this), List.length_cons, idx_sorted L h.2 i hi', List.idxOf_cons]
      have : (a == i) = false := by simpa using e
      rw [this]; rfl
theorem plI_live {h : Hp} {rs : List Int} {i : Nat} (hi : i ∈ liveN h rs) : plI (liveL h rs) i = (liveN h rs).idxOf i := by
  rw [← idx_sorted _ (liveN_sorted h rs) i hi]
  unfold plI liveL
  rw [List.filter_map, List.length_map]
  congr 1
  refine List.filter_congr fun y _ => ?_
  show decide ((y : Int) < (i : Int)) = _
  simp
theorem mem_liveL_nat {h : Hp} {rs : List Int} {i : Nat} : ((i : Int) ∈ liveL h rs) ↔ i ∈ liveN h rs := by
  rw [mem_liveL, mem_liveN]
  constructor
  · rintro ⟨j, hj, r⟩; obtain rfl : i = j := by omega
    exact r
  · exact fun r => ⟨i, rfl, r⟩
theorem tab_at {h : Hp} {rs : List Int} (e : liE h rs = 0) {i : Nat} (hi : i < h.objs.length) (d : Int) : (tabL h rs).getD i d = newK (liveN h rs) (liveN h rs).length i := by
  rw [tabL_yes e, List.getD_eq_getElem?_getD, List.getElem?_map, List.getElem?_range hi]; rfl
theorem tab_in {h : Hp} {rs : List Int} (e : liE h rs = 0) {i : Nat} (hi : i ∈ liveN h rs) (d : Int) : (tabL h rs).getD i d = ((liveN h rs).idxOf i : Int) := by
  rw [tab_at e (liveN_lt hi), newK_in hi]
theorem tab_out {h : Hp} {rs : List Int} (e : liE h rs = 0) {i : Nat} (hn : i < h.objs.length) (hi : i ∉ liveN h rs) (d : Int) : (tabL h rs).getD i d = -1 := by
  rw [tab_at e hn, newK_out hi]
theorem kept_all {h : Hp} {rs : List Int} (e : liE h rs = 0) : kept (tabL h rs) h.objs.length = liveN h rs := by
  unfold kept liveN
  refine List.filter_congr fun i hi => ?_
  have hn := List.mem_range.1 hi
  by_cases hr : i ∈ liveN h rs
  · rw [tab_in e hr, decide_eq_true (by omega)]
    simpa using mem_liveN.1 hr
  · rw [tab_out e hn hr]
    have : ¬ Reach h rs i := fun r => hr (mem_liveN.2 r)
    simp [this]
theorem kept_succ (t : List Int) (k : Nat) : kept t (k + 1) = kept t k ++ if 0 ≤ t.getD k (-1) then [k] else [] := by
  unfold kept
  rw [List.range_succ, List.filter_append]
  congr 1
  by_cases g : 0 ≤ t.getD k (-1)
  · rw [if_pos g, List.filter_cons_of_pos (by simpa using g)]; rfl
  · rw [if_neg g, List.filter_cons_of_neg (by simpa using g)]; rfl
theorem obsK_in (h : Hp) (t : List Int) {k : Nat} (hk : k < h.objs.length) (g : 0 ≤ t.getD k (-1)) : obsK h t (k + 1) = obsK h t k ++ [moO t h.objs[k]] := by
  unfold obsK
  rw [kept_succ, if_pos g, List.map_append]
  simp [List.getD_eq_getElem?_getD, List.getElem?_eq_getElem hk]
theorem obsK_out (h : Hp) (t : List Int) {k : Nat} (g : ¬ 0 ≤ t.getD k (-1)) : obsK h t (k + 1) = obsK h t k := by
  unfold obsK
  rw [kept_succ, if_neg g, List.append_nil]
theorem obsK_le (h : Hp) (t : List Int) (k : Nat) : (obsK h t k).length ≤ k := by
  unfold obsK kept
  rw [List.length_map]
  have := List.length_filter_le (fun i => decide (0 ≤ t.getD i (-1))) (List.range k)
  rwa [List.length_range] at this
theorem coH_objs {h : Hp} {rs : List Int} (e : liE h rs = 0) : (coH h rs).objs = (liveN h rs).map fun i => moO (tabL h rs) (h.objs.getD i default) := by
  rw [coH_yes e]
  show obsK h (tabL h rs) h.objs.length = _
  unfold obsK
  rw [kept_all e]
theorem coH_len {h : Hp} {rs : List Int} (e : liE h rs = 0) : (coH h rs).objs.length = (liveN h rs).length := by rw [coH_objs e, List.length_map]
theorem coH_get {h : Hp} {rs : List Int} (e : liE h rs = 0) {k : Nat} (hk : k < (liveN h rs).length) : ∃ o, h.objs[(liveN h rs)[k]]? = some o ∧ (coH h rs).objs[k]? = some (moO (tabL h rs) o) := by
  have hi := liveN_lt (List.getElem_mem hk)
  refine ⟨_, List.getElem?_eq_getElem hi, ?_⟩
  rw [coH_objs e, List.getElem?_map, List.getElem?_eq_getElem hk]
  simp only [Option.map_some]
  rw [List.getD_eq_getElem?_getD, List.getElem?_eq_getElem hi]; rfl
/-- v is a value of the heap, and what it is the ref of is reached -/
def LiveV (h : Hp) (rs : List Int) (v : Int) : Prop := hasB h.objs.length v = true ∧ (refB h.objs.length v = true → (atV v).toNat ∈ liveN h rs)
theorem nat_ref {n : Nat} {v : Int} (hr : refB n v = true) : v = 2 * ((atV v).toNat : Int) := by
  obtain ⟨a, -, -⟩ := refB_no hr
  have := atB_iff.1 a
  have e := refB_nat hr
  have h2 : atV v = v / 2 := by unfold atV; rw [if_pos a]
  omega
theorem nB_no {n : Nat} {v : Int} (hr : refB n v = true) : nB v = false := by
  obtain ⟨a, -, -⟩ := refB_no hr
  cases hn : nB v
  · rfl
  · have := nB_iff.1 hn; have := atB_iff.1 a; omega
theorem has_not {n : Nat} {v : Int} (h : hasB n v = true) (hr : refB n v = false) : nB v = true := by
  unfold hasB at h; rwa [hr, Bool.or_false] at h
theorem va_small {t : List Int} {v : Int} (hn : nB v = true) : vaV t v = v ∧ vaB t v = true := by
  unfold vaV vaB; rw [hn]; simp
theorem va_ref {h : Hp} {rs : List Int} (e : liE h rs = 0) {v : Int} (hr : refB h.objs.length v = true) (hi : (atV v).toNat ∈ liveN h rs) :
    vaV (tabL h rs) v = 2 * ((liveN h rs).idxOf (atV v).toNat : Int) ∧ vaB (tabL h rs) v = true := by
  obtain ⟨a, b, c⟩ := refB_no hr
  have hm := (li_ok e).1
  have h256 := may_len hm
  have hx : (liveN h rs).idxOf (atV v).toNat < (liveN h rs).length := List.idxOf_lt_length_iff.2 hi
  have hle := liveN_le h rs
  have hnu : nuB ((liveN h rs).idxOf (atV v).toNat : Int) = true := nuB_iff.2 (by omega)
  have hlt : decide (atV v < (tabL h rs).length) = true := by rw [tabL_len e]; simpa using c
  unfold vaV vaB
  rw [nB_no hr, a, hlt, tab_in e hi, hnu]
  unfold reV
  rw [hnu]
  simp
theorem va_gone {h : Hp} {rs : List Int} (e : liE h rs = 0) {v : Int} (hr : refB h.objs.length v = true) (hi : (atV v).toNat ∉ liveN h rs) :
    vaV (tabL h rs) v = 0 ∧ vaB (tabL h rs) v = false := by
  obtain ⟨a, b, c⟩ := refB_no hr
  have hlt : decide (atV v < (tabL h rs).length) = true := by rw [tabL_len e]; simpa using c
  have hnu : nuB (-1) = false := by decide
  unfold vaV vaB
  rw [nB_no hr, a, hlt, tab_out e (refB_nat hr).1 hi, hnu]
  unfold reV
  rw [hnu]
  simp
theorem ref_two {n i : Nat} (hn : n ≤ 256) (hi : i < n) : refB n (2 * (i : Int)) = true ∧ atV (2 * (i : Int)) = i := ⟨ref_even hn hi, (at_even (by omega)).2⟩
theorem va_live {h : Hp} {rs : List Int} (e : liE h rs = 0) {v : Int} (hl : LiveV h rs v) :
    hasB (coH h rs).objs.length (vaV (tabL h rs) v) = true ∧ vaB (tabL h rs) v = true ∧ refB (coH h rs).objs.length (vaV (tabL h rs) v) = refB h.objs.length v := by
  have hm := (li_ok e).1
  have h256 := may_len hm
  have hle := liveN_le h rs
  cases hr : refB h.objs.length v
  · have hn := has_not hl.1 hr
    rw [(va_small hn).1]
    refine ⟨by unfold hasB; rw [hn]; rfl, (va_small hn).2, ?_⟩
    cases hc : refB (coH h rs).objs.length v
    · rfl
    · rw [nB_no hc] at hn; cases hn
  · have hi := hl.2 hr
    obtain ⟨e1, e2⟩ := va_ref e hr hi
    have hx : (liveN h rs).idxOf (atV v).toNat < (liveN h rs).length := List.idxOf_lt_length_iff.2 hi
    obtain ⟨r1, r2⟩ := ref_two (n := (coH h rs).objs.length) (by rw [coH_len e]; omega) (by rw [coH_len e]; exact hx)
    rw [e1, r1]
    exact ⟨by unfold hasB; rw [r1, Bool.or_true], e2, rfl⟩
theorem live_root {h : Hp} {rs : List Int} (e : liE h rs = 0) {v : Int} (hv : v ∈ rs) : LiveV h rs v :=
  ⟨(li_ok e).2.1 v hv, fun hr => mem_liveN.2 (.root v hv hr)⟩
theorem live_step {h : Hp} {rs : List Int} (e : liE h rs = 0) {i : Nat} (hi : i ∈ liveN h rs) {o : Ob} (ho : h.objs[i]? = some o) {v : Int} (hv : v ∈ o.cls :: o.slots) : LiveV h rs v := by
  obtain ⟨h1, h2⟩ := ob_vals (may_all (li_ok e).1 _ (List.mem_of_getElem? ho))
  refine ⟨?_, fun hr => mem_liveN.2 (.step i o v (mem_liveN.1 hi) ho hv hr)⟩
  rcases List.mem_cons.1 hv with g | g
  · rw [g]; exact ref_has h1
  · exact h2 v g
theorem kiB_mo (t : List Int) (o : Ob) : kiB (moO t o) = kiB o := by
  obtain ⟨cl, ki, sl, te, bi, ha⟩ := o
  cases sl with
  | nil => rfl
  | cons a l =>
    unfold kiB
    simp only [moO, List.map_cons, List.length_cons, List.length_map]
    rfl
theorem mo_ob {h : Hp} {rs : List Int} (e : liE h rs = 0) {i : Nat} (hi : i ∈ liveN h rs) {o : Ob} (ho : h.objs[i]? = some o) : obB (coH h rs).objs.length (moO (tabL h rs) o) = true := by
  have hob := may_all (li_ok e).1 _ (List.mem_of_getElem? ho)
  obtain ⟨h1, h2⟩ := ob_vals hob
  unfold obB at hob ⊢
  simp only [Bool.and_eq_true] at hob ⊢
  obtain ⟨⟨⟨-, hh⟩, hk⟩, -⟩ := hob
  refine ⟨⟨⟨?_, hh⟩, ?_⟩, ?_⟩
  · have := (va_live e (live_step e hi ho (v := o.cls) (by simp))).2.2
    rw [h1] at this
    exact this
  · rw [kiB_mo]; exact hk
  · refine List.all_eq_true.2 fun y hy => ?_
    obtain ⟨v, hv, rfl⟩ := List.mem_map.1 hy
    exact (va_live e (live_step e hi ho (List.mem_cons_of_mem _ hv))).1
theorem co_may {h : Hp} {rs : List Int} (e : liE h rs = 0) : mayB (coH h rs) = true := by
  have hm := (li_ok e).1
  have hle := liveN_le h rs
  have hl := coH_len e
  have hall : ∀ o ∈ (coH h rs).objs, obB (coH h rs).objs.length o = true := fun o ho => by
    obtain ⟨k, hk, rfl⟩ := List.getElem_of_mem ho
    obtain ⟨o, h1, h2⟩ := coH_get e (k := k) (by omega)
    rw [List.getElem?_eq_getElem hk] at h2
    rw [Option.some.inj h2]
    exact mo_ob e (List.getElem_mem (by omega)) h1
  have hc : (coH h rs).cap = h.cap ∧ (coH h rs).last = h.last := by rw [coH_yes e]; exact ⟨rfl, rfl⟩
  unfold mayB at hm ⊢
  rw [hc.1, hc.2]
  simp only [Bool.and_eq_true, decide_eq_true_eq] at hm ⊢
  exact ⟨⟨⟨hm.1.1.1, hm.1.1.2.1, by omega⟩, hm.1.2⟩, List.all_eq_true.2 hall⟩
theorem co_liE {h : Hp} {rs : List Int} (e : liE h rs = 0) : liE (coH h rs) (coL h rs) = 0 := by
  unfold liE
  rw [if_pos (co_may e), if_pos]
  refine List.all_eq_true.2 fun y hy => ?_
  rw [coL_yes e] at hy
  obtain ⟨v, hv, rfl⟩ := List.mem_map.1 hy
  exact (va_live e (live_root e hv)).1
/-- what was reached is reached at its new number -/
theorem co_reach {h : Hp} {rs : List Int} (e : liE h rs = 0) {i : Nat} (r : Reach h rs i) : Reach (coH h rs) (coL h rs) ((liveN h rs).idxOf i) := by
  have hm := (li_ok e).1
  have h256 := may_len hm
  have hle := liveN_le h rs
  have hl := coH_len e
  have key : ∀ v, refB h.objs.length v = true → (atV v).toNat ∈ liveN h rs → refB (coH h rs).objs.length (vaV (tabL h rs) v) = true ∧ (atV (vaV (tabL h rs) v)).toNat = (liveN h rs).idxOf (atV v).toNat := fun v hr hi => by
    have hx : (liveN h rs).idxOf (atV v).toNat < (liveN h rs).length := List.idxOf_lt_length_iff.2 hi
    obtain ⟨r1, r2⟩ := ref_two (n := (coH h rs).objs.length) (by omega) (by rw [hl]; exact hx)
    rw [(va_ref e hr hi).1]
    exact ⟨r1, by rw [r2]; rfl⟩
  have hs : i ∈ liveN h rs ∧ Reach (coH h rs) (coL h rs) ((liveN h rs).idxOf i) := by
    refine r.least (fun i => i ∈ liveN h rs ∧ Reach (coH h rs) (coL h rs) ((liveN h rs).idxOf i)) (fun v hv hr => ?_) (fun i o v hi ho hv hr => ?_)
    · have hi : (atV v).toNat ∈ liveN h rs := mem_liveN.2 (.root v hv hr)
      obtain ⟨k1, k2⟩ := key v hr hi
      refine ⟨hi, ?_⟩
      rw [← k2]
      exact .root _ (by rw [coL_yes e]; exact List.mem_map.2 ⟨v, hv, rfl⟩) k1
    · have hi' : (atV v).toNat ∈ liveN h rs := mem_liveN.2 (.step i o v (mem_liveN.1 hi.1) ho hv hr)
      obtain ⟨k1, k2⟩ := key v hr hi'
      have hx : (liveN h rs).idxOf i < (liveN h rs).length := List.idxOf_lt_length_iff.2 hi.1
      obtain ⟨o', ho', hc⟩ := coH_get e hx
      rw [List.getElem_idxOf hx, ho] at ho'
      obtain rfl : o = o' := Option.some.inj ho'
      refine ⟨hi', ?_⟩
      rw [← k2]
      refine .step _ (moO (tabL h rs) o) _ hi.2 hc ?_ k1
      rcases List.mem_cons.1 hv with g | g
      · rw [g]; exact List.mem_cons_self ..
      · exact List.mem_cons_of_mem _ (List.mem_map.2 ⟨v, g, rfl⟩)
  exact hs.2
theorem co_liveN {h : Hp} {rs : List Int} (e : liE h rs = 0) : liveN (coH h rs) (coL h rs) = List.range (coH h rs).objs.length := by
  unfold liveN
  refine List.filter_eq_self.2 fun k hk => ?_
  have hk' := List.mem_range.1 hk
  rw [coH_len e] at hk'
  have := co_reach e (mem_liveN.1 (List.getElem_mem hk'))
  rw [idx_get (liveN_nodup h rs) hk'] at this
  simpa using this
theorem co_live {h : Hp} {rs : List Int} (e : liE h rs = 0) : (liL (coH h rs) (coL h rs)).length = (coH h rs).objs.length := by
  rw [(li_ok (co_liE e)).2.2, liveL_length, co_liveN e, List.length_range]
theorem va_again {h : Hp} {rs : List Int} (e : liE h rs = 0) (hl : liveN h rs = List.range h.objs.length) {v : Int} (hv : hasB h.objs.length v = true) : vaV (tabL h rs) v = v := by
  cases hr : refB h.objs.length v
  · exact (va_small (has_not hv hr)).1
  · have hlt := (refB_nat hr).1
    have hi : (atV v).toNat ∈ liveN h rs := by rw [hl]; exact List.mem_range.2 hlt
    rw [(va_ref e hr hi).1, hl]
    have : (List.range h.objs.length).idxOf (atV v).toNat = (atV v).toNat := by
      have := idx_get (L := List.range h.objs.length) List.nodup_range (k := (atV v).toNat) (by simpa using hlt)
      rwa [List.getElem_range] at this
    rw [this]
    exact (nat_ref hr).symm
theorem mo_again {h : Hp} {rs : List Int} (e : liE h rs = 0) (hl : liveN h rs = List.range h.objs.length) {o : Ob} (ho : o ∈ h.objs) : moO (tabL h rs) o = o := by
  obtain ⟨h1, h2⟩ := ob_vals (may_all (li_ok e).1 _ ho)
  unfold moO
  rw [va_again e hl (ref_has h1)]
  have : o.slots.map (vaV (tabL h rs)) = o.slots := by
    conv => rhs; rw [← List.map_id o.slots]
    exact List.map_congr_left fun v hv => va_again e hl (h2 v hv)
  rw [this]
theorem all_again {h : Hp} {rs : List Int} (e : liE h rs = 0) (hl : liveN h rs = List.range h.objs.length) : coH h rs = h ∧ coL h rs = rs := by
  have h1 : (coH h rs).objs = h.objs := by
    rw [coH_objs e, hl]
    apply List.ext_getElem?
    intro j
    rw [List.getElem?_map]
    by_cases hj : j < h.objs.length
    · rw [List.getElem?_range hj, List.getElem?_eq_getElem hj]
      simp only [Option.map_some]
      rw [List.getD_eq_getElem?_getD, List.getElem?_eq_getElem hj]
      show some (moO _ h.objs[j]) = _
      rw [mo_again e hl (List.getElem_mem hj)]
    · rw [List.getElem?_eq_none (by simp; omega), List.getElem?_eq_none (by omega)]; rfl
  constructor
  · have h2 := coH_yes e
    cases hc : coH h rs with
    | mk os cp la =>
      rw [hc] at h1 h2
      injection h2 with _ h3 h4
      simp only at h1
      rw [h1, h3, h4]
  · rw [coL_yes e]
    conv => rhs; rw [← List.map_id rs]
    exact List.map_congr_left fun v hv => va_again e hl ((li_ok e).2.1 v hv)
/-- compacted again it is as it is -/
theorem co_again {h : Hp} {rs : List Int} (e : liE h rs = 0) : coH (coH h rs) (coL h rs) = coH h rs ∧ coL (coH h rs) (coL h rs) = coL h rs :=
  all_again (co_liE e) (co_liveN e)
/-- unlike values of what is reached have unlike values -/
theorem va_inj {h : Hp} {rs : List Int} (e : liE h rs = 0) {u v : Int} (hu : LiveV h rs u) (hv : LiveV h rs v) : vaV (tabL h rs) u = vaV (tabL h rs) v ↔ u = v := by
  refine ⟨fun g => ?_, fun g => by rw [g]⟩
  cases ru : refB h.objs.length u <;> cases rv : refB h.objs.length v
  · rwa [(va_small (has_not hu.1 ru)).1, (va_small (has_not hv.1 rv)).1] at g
  · have h1 := has_not hu.1 ru
    rw [(va_small h1).1, (va_ref e rv (hv.2 rv)).1] at g
    have := nB_iff.1 h1
    omega
  · have h1 := has_not hv.1 rv
    rw [(va_small h1).1, (va_ref e ru (hu.2 ru)).1] at g
    have := nB_iff.1 h1
    omega
  · rw [(va_ref e ru (hu.2 ru)).1, (va_ref e rv (hv.2 rv)).1] at g
    have h1 : (liveN h rs).idxOf (atV u).toNat = (liveN h rs).idxOf (atV v).toNat := by omega
    have h2 := List.getElem_idxOf (List.idxOf_lt_length_iff.2 (hu.2 ru))
    have h3 := List.getElem_idxOf (List.idxOf_lt_length_iff.2 (hv.2 rv))
    simp only [h1] at h2
    have h4 : (atV u).toNat = (atV v).toNat := h2.symm.trans h3
    rw [nat_ref ru, nat_ref rv, h4]
end Go.Proofs.Ytjpibkcbgogfoaa
