/- Compaction over plain heaps: new numbers, values by a table, the heap that is left. Objects numbered as they are met: over plain heaps. -/
import Derived.Test.YtnilempeldlieaaGreatM04
import Derived.Test.YtnilempeldlieaaGreatM05
namespace Go.Proofs.YtnilempeldlieaaGreat
open Go.RowKit
/-- has v a value by the table; which -/
def vaB (t : List Int) (v : Int) : Bool := nB v || (atB v && decide (atV v < t.length) && nuB (t.getD (atV v).toNat 0))
def vaV (t : List Int) (v : Int) : Int := if nB v then v else if atB v && decide (atV v < t.length) then reV (t.getD (atV v).toNat 0) else 0
/-- an object whose values are those by the table -/
def moO (t : List Int) (o : Ob) : Ob := { o with cls := vaV t o.cls, slots := o.slots.map (vaV t) }
/-- of the first k objects those that have a number in the table -/
def kept (t : List Int) (k : Nat) : List Nat := (List.range k).filter fun i => decide (0 ≤ t.getD i (-1))
def obsK (h : Hp) (t : List Int) (k : Nat) : List Ob := (kept t k).map fun i => moO t (h.objs.getD i default)
/-- the number of i, if it is one of the first k of L -/
def newK (L : List Nat) (k i : Nat) : Int := if L.idxOf i < k then (L.idxOf i : Int) else -1
noncomputable def tabL (h : Hp) (rs : List Int) : List Int := if liE h rs = 0 then (List.range h.objs.length).map (newK (liveN h rs) (liveN h rs).length) else []
noncomputable def coH (h : Hp) (rs : List Int) : Hp := if liE h rs = 0 then ⟨obsK h (tabL h rs) h.objs.length, h.cap, h.last⟩ else zeroH
noncomputable def coL (h : Hp) (rs : List Int) : List Int := if liE h rs = 0 then rs.map (vaV (tabL h rs)) else []
theorem tabL_no {h : Hp} {rs : List Int} (e : liE h rs ≠ 0) : tabL h rs = [] := by unfold tabL; rw [if_neg e]
theorem coH_no {h : Hp} {rs : List Int} (e : liE h rs ≠ 0) : coH h rs = zeroH := by unfold coH; rw [if_neg e]
theorem coL_no {h : Hp} {rs : List Int} (e : liE h rs ≠ 0) : coL h rs = [] := by unfold coL; rw [if_neg e]
theorem tabL_yes {h : Hp} {rs : List Int} (e : liE h rs = 0) : tabL h rs = (List.range h.objs.length).map (newK (liveN h rs) (liveN h rs).length) := by unfold tabL; rw [if_pos e]
theorem coH_yes {h : Hp} {rs : List Int} (e : liE h rs = 0) : coH h rs = ⟨obsK h (tabL h rs) h.objs.length, h.cap, h.last⟩ := by unfold coH; rw [if_pos e]
theorem coL_yes {h : Hp} {rs : List Int} (e : liE h rs = 0) : coL h rs = rs.map (vaV (tabL h rs)) := by unfold coL; rw [if_pos e]
theorem tabL_len {h : Hp} {rs : List Int} (e : liE h rs = 0) : (tabL h rs).length = h.objs.length := by rw [tabL_yes e]; simp
theorem tabL_le (h : Hp) (rs : List Int) : (tabL h rs).length ≤ h.objs.length := by
  by_cases e : liE h rs = 0
  · exact Nat.le_of_eq (tabL_len e)
  · rw [tabL_no e]; exact Nat.zero_le _
theorem coL_le (h : Hp) (rs : List Int) : (coL h rs).length ≤ rs.length := by
  by_cases e : liE h rs = 0
  · rw [coL_yes e]; simp
  · rw [coL_no e]; exact Nat.zero_le _
theorem li_ok {h : Hp} {rs : List Int} (e : liE h rs = 0) : mayB h = true ∧ (∀ v ∈ rs, hasB h.objs.length v = true) ∧ liL h rs = liveL h rs := by
  refine ⟨?_, ?_, by unfold liL; rw [if_pos e]⟩
  · cases hm : mayB h
    · unfold liE at e; rw [hm] at e; simp at e
    · rfl
  · unfold liE at e
    split at e
    · split at e
      · rename_i h1; exact List.all_eq_true.1 h1
      · cases e
    · cases e
theorem idx_get {L : List Nat} (hn : L.Nodup) {k : Nat} (hk : k < L.length) : L.idxOf L[k] = k := hn.idxOf_getElem k hk
theorem sorted_nodup {L : List Nat} (h : L.Pairwise (· < ·)) : L.Nodup := h.imp fun hab e => by omega
theorem liveN_nodup (h : Hp) (rs : List Int) : (liveN h rs).Nodup := sorted_nodup (liveN_sorted h rs)
theorem liveN_lt {h : Hp} {rs : List Int} {i : Nat} (hi : i ∈ liveN h rs) : i < h.objs.length := (mem_liveN.1 hi).lt
theorem newK_in {L : List Nat} {i : Nat} (hi : i ∈ L) : newK L L.length i = (L.idxOf i : Int) := by
  unfold newK; rw [if_pos (List.idxOf_lt_length_iff.2 hi)]
theorem newK_out {L : List Nat} {i : Nat} (hi : i ∉ L) : newK L L.length i = -1 := by
  unfold newK; rw [if_neg fun h => hi (List.idxOf_lt_length_iff.1 h)]
theorem newK_zero (L : List Nat) (i : Nat) : newK L 0 i = -1 := by unfold newK; rw [if_neg (Nat.not_lt_zero _)]
/-- one more of those that are reached has its number written -/
theorem newK_step {L : List Nat} (hn : L.Nodup) {n k : Nat} (hk : k < L.length) : ((List.range n).map (newK L k)).set L[k] (k : Int) = (List.range n).map (newK L (k + 1)) := by
  apply List.ext_getElem?
  intro j
  rw [List.getElem?_set, List.getElem?_map, List.getElem?_map, List.length_map, List.length_range]
  by_cases hj : j < n
  · rw [List.getElem?_range hj]
    simp only [Option.map_some]
    by_cases e : L[k] = j
    · rw [if_pos e, if_pos (by omega)]
      have : L.idxOf j = k := by rw [← e]; exact idx_get hn hk
      unfold newK; rw [this, if_pos (Nat.lt_succ_self k)]
    · rw [if_neg e]
      unfold newK
      have : L.idxOf j ≠ k := fun g => e (by
        have hm : L.idxOf j < L.length := by omega
        have := List.getElem_idxOf hm
        simp only [g] at this
        exact this)
      by_cases g : L.idxOf j < k
      · rw [if_pos g, if_pos (by omega)]
      · rw [if_neg g, if_neg (by omega)]
  · have h1 : (List.range n)[j]? = none := List.getElem?_eq_none (by simp; omega)
    rw [h1]
    by_cases e : L[k] = j
    · rw [if_pos e, if_neg (by omega)]; rfl
    · rw [if_neg e]; rfl
/-- how many of a list are less -/
def plI (L : List Int) (x : Int) : Nat := (L.filter fun y => decide (y < x)).length
theorem plI_le (L : List Int) (x : Int) : plI L x ≤ L.length := List.length_filter_le _ _
theorem idx_sorted : ∀ (L : List Nat), L.Pairwise (· < ·) → ∀ i ∈ L, (L.filter fun y => decide (y < i)).length = L.idxOf i
  | [], _, i, hi => by simp at hi
  | a :: L, h, i, hi => by
    rw [List.pairwise_cons] at h
    by_cases e : a = i
    · subst e
      have : L.filter (fun y => decide (y < a)) = [] := List.filter_eq_nil_iff.2 fun y hy => by have := h.1 y hy; simp; omega
      rw [List.filter_cons_of_neg (by simp), this]
      simp
    · have hi' : i ∈ L := by rcases List.mem_cons.1 hi with g | g; exact absurd g.symm e; exact g
      have := h.1 i hi'
      rw [List.filter_cons_of_pos (by simpa using this), List.length_cons, idx_sorted L h.2 i hi', List.idxOf_cons]
      have : (a == i) = false := by simpa using e
      rw [this]; rfl
theorem plI_live {h : Hp} {rs : List Int} {i : Nat} (hi : i ∈ liveN h rs) : plI (liveL h rs) i = (liveN h rs).idxOf i := by
  rw [← idx_sorted _ (liveN_sorted h rs) i hi]
  unfold plI liveL
  rw [List.filter_map, List.length_map]
  congr 1
  refine List.filter_congr fun y _ => ?_
  show decide ((y : Int) < (i : Int)) = _
  simp
theorem mem_liveL_nat {h : Hp} {rs : List Int} {i : Nat} : ((i : Int) ∈ liveL h rs) ↔ i ∈ liveN h rs := by
  rw [mem_liveL, mem_liveN]
  constructor
  · rintro ⟨j, hj, r⟩; obtain rfl : i = j := by omega
    exact r
  · exact fun r => ⟨i, rfl, r⟩
theorem tab_at {h : Hp} {rs : List Int} (e : liE h rs = 0) {i : Nat} (hi : i < h.objs.length) (d : Int) : (tabL h rs).getD i d = newK (liveN h rs) (liveN h rs).length i := by
  rw [tabL_yes e, List.getD_eq_getElem?_getD, List.getElem?_map, List.getElem?_range hi]; rfl
theorem tab_in {h : Hp} {rs : List Int} (e : liE h rs = 0) {i : Nat} (hi : i ∈ liveN h rs) (d : Int) : (tabL h rs).getD i d = ((liveN h rs).idxOf i : Int) := by
  rw [tab_at e (liveN_lt hi), newK_in hi]
theorem tab_out {h : Hp} {rs : List Int} (e : liE h rs = 0) {i : Nat} (hn : i < h.objs.length) (hi : i ∉ liveN h rs) (d : Int) : (tabL h rs).getD i d = -1 := by
  rw [tab_at e hn, newK_out hi]
theorem kept_all {h : Hp} {rs : List Int} (e : liE h rs = 0) : kept (tabL h rs) h.objs.length = liveN h rs := by
  unfold kept liveN
  refine List.filter_congr fun i hi => ?_
  have hn := List.mem_range.1 hi
  by_cases hr : i ∈ liveN h rs
  · rw [tab_in e hr, decide_eq_true (by omega)]
    simpa using mem_liveN.1 hr
  · rw [tab_out e hn hr]
    have : ¬ Reach h rs i := fun r => hr (mem_liveN.2 r)
    simp [this]
theorem kept_succ (t : List Int) (k : Nat) : kept t (k + 1) = kept t k ++ if 0 ≤ t.getD k (-1) then [k] else [] := by
  unfold kept
  rw [List.range_succ, List.filter_append]
  congr 1
  by_cases g : 0 ≤ t.getD k (-1)
  · rw [if_pos g, List.filter_cons_of_pos (by simpa using g)]; rfl
  · rw [if_neg g, List.filter_cons_of_neg (by simpa using g)]; rfl
theorem obsK_in (h : Hp) (t : List Int) {k : Nat} (hk : k < h.objs.length) (g : 0 ≤ t.getD k (-1)) : obsK h t (k + 1) = obsK h t k ++ [moO t h.objs[k]] := by
  unfold obsK
  rw [kept_succ, if_pos g, List.map_append]
  simp [List.getD_eq_getElem?_getD, List.getElem?_eq_getElem hk]
theorem obsK_out (h : Hp) (t : List Int) {k : Nat} (g : ¬ 0 ≤ t.getD k (-1)) : obsK h t (k + 1) = obsK h t k := by
  unfold obsK
  rw [kept_succ, if_neg g, List.append_nil]
theorem obsK_le (h : Hp) (t : List Int) (k : Nat) : (obsK h t k).length ≤ k := by
  unfold obsK kept
  rw [List.length_map]
  have := List.length_filter_le (fun i => decide (0 ≤ t.getD i (-1))) (List.range k)
  rwa [List.length_range] at this
theorem coH_objs {h : Hp} {rs : List Int} (e : liE h rs = 0) : (coH h rs).objs = (liveN h rs).map fun i => moO (tabL h rs) (h.objs.getD i default) := by
  rw [coH_yes e]
  show obsK h (tabL h rs) h.objs.length = _
  unfold obsK
  rw [kept_all e]
theorem coH_len {h : Hp} {rs : List Int} (e : liE h rs = 0) : (coH h rs).objs.length = (liveN h rs).length := by rw [coH_objs e, List.length_map]
theorem coH_get {h : Hp} {rs : List Int} (e : liE h rs = 0) {k : Nat} (hk : k < (liveN h rs).length) : ∃ o, h.objs[(liveN h rs)[k]]? = some o ∧ (coH h rs).objs[k]? = some (moO (tabL h rs) o) := by
  have hi := liveN_lt (List.getElem_mem hk)
  refine ⟨_, List.getElem?_eq_getElem hi, ?_⟩
  rw [coH_objs e, List.getElem?_map, List.getElem?_eq_getElem hk]
  simp only [Option.map_some]
  rw [List.getD_eq_getElem?_getD, List.getElem?_eq_getElem hi]; rfl
/-- v is a value of the heap, and what it is the ref of is reached -/
def LiveV (h : Hp) (rs : List Int) (v : Int) : Prop := hasB h.objs.length v = true ∧ (refB h.objs.length v = true → (atV v).toNat ∈ liveN h rs)
theorem nat_ref {n : Nat} {v : Int} (hr : refB n v = true) : v = 2 * ((atV v).toNat : Int) := by
  obtain ⟨a, -, -⟩ := refB_no hr
  have := atB_iff.1 a
  have e := refB_nat hr
  have h2 : atV v = v / 2 := by unfold atV; rw [if_pos a]
  omega
theorem nB_no {n : Nat} {v : Int} (hr : refB n v = true) : nB v = false := by
  obtain ⟨a, -, -⟩ := refB_no hr
  cases hn : nB v
  · rfl
  · have := nB_iff.1 hn; have := atB_iff.1 a; omega
theorem has_not {n : Nat} {v : Int} (h : hasB n v = true) (hr : refB n v = false) : nB v = true := by
  unfold hasB at h; rwa [hr, Bool.or_false] at h
theorem va_small {t : List Int} {v : Int} (hn : nB v = true) : vaV t v = v ∧ vaB t v = true := by
  unfold vaV vaB; rw [hn]; simp
theorem va_ref {h : Hp} {rs : List Int} (e : liE h rs = 0) {v : Int} (hr : refB h.objs.length v = true) (hi : (atV v).toNat ∈ liveN h rs) :
    vaV (tabL h rs) v = 2 * ((liveN h rs).idxOf (atV v).toNat : Int) ∧ vaB (tabL h rs) v = true := by
  obtain ⟨a, b, c⟩ := refB_no hr
  have hm := (li_ok e).1
  have h256 := may_len hm
  have hx : (liveN h rs).idxOf (atV v).toNat < (liveN h rs).length := List.idxOf_lt_length_iff.2 hi
  have hle := liveN_le h rs
  have hnu : nuB ((liveN h rs).idxOf (atV v).toNat : Int) = true := nuB_iff.2 (by omega)
  have hlt : decide (atV v < (tabL h rs).length) = true := by rw [tabL_len e]; simpa using c
  unfold vaV vaB
  rw [nB_no hr, a, hlt, tab_in e hi, hnu]
  unfold reV
  rw [hnu]
  simp
theorem va_gone {h : Hp} {rs : List Int} (e : liE h rs = 0) {v : Int} (hr : refB h.objs.length v = true) (hi : (atV v).toNat ∉ liveN h rs) :
    vaV (tabL h rs) v = 0 ∧ vaB (tabL h rs) v = false := by
  obtain ⟨a, b, c⟩ := refB_no hr
  have hlt : decide (atV v < (tabL h rs).length) = true := by rw [tabL_len e]; simpa using c
  have hnu : nuB (-1) = false := by decide
  unfold vaV vaB
  rw [nB_no hr, a, hlt, tab_out e (refB_nat hr).1 hi, hnu]
  unfold reV
  rw [hnu]
  simp
theorem ref_two {n i : Nat} (hn : n ≤ 256) (hi : i < n) : refB n (2 * (i : Int)) = true ∧ atV (2 * (i : Int)) = i := ⟨ref_even hn hi, (at_even (by omega)).2⟩
theorem va_live {h : Hp} {rs : List Int} (e : liE h rs = 0) {v : Int} (hl : LiveV h rs v) :
    hasB (coH h rs).objs.length (vaV (tabL h rs) v) = true ∧ vaB (tabL h rs) v = true ∧ refB (coH h rs).objs.length (vaV (tabL h rs) v) = refB h.objs.length v := by
  have hm := (li_ok e).1
  have h256 := may_len hm
  have hle := liveN_le h rs
  cases hr : refB h.objs.length v
  · have hn := has_not hl.1 hr
    rw [(va_small hn).1]
    refine ⟨by unfold hasB; rw [hn]; rfl, (va_small hn).2, ?_⟩
    cases hc : refB (coH h rs).objs.length v
    · rfl
    · rw [nB_no hc] at hn; cases hn
  · have hi := hl.2 hr
    obtain ⟨e1, e2⟩ := va_ref e hr hi
    have hx : (liveN h rs).idxOf (atV v).toNat < (liveN h rs).length := List.idxOf_lt_length_iff.2 hi
    obtain ⟨r1, r2⟩ := ref_two (n := (coH h rs).objs.length) (by rw [coH_len e]; omega) (by rw [coH_len e]; exact hx)
    rw [e1, r1]
    exact ⟨by unfold hasB; rw [r1, Bool.or_true], e2, rfl⟩
theorem live_root {h : Hp} {rs : List Int} (e : liE h rs = 0) {v : Int} (hv : v ∈ rs) : LiveV h rs v :=
  ⟨(li_ok e).2.1 v hv, fun hr => mem_liveN.2 (.root v hv hr)⟩
theorem live_step {h : Hp} {rs : List Int} (e : liE h rs = 0) {i : Nat} (hi : i ∈ liveN h rs) {o : Ob} (ho : h.objs[i]? = some o) {v : Int} (hv : v ∈ o.cls :: o.slots) : LiveV h rs v := by
  obtain ⟨h1, h2⟩ := ob_vals (may_all (li_ok e).1 _ (List.mem_of_getElem? ho))
  refine ⟨?_, fun hr => mem_liveN.2 (.step i o v (mem_liveN.1 hi) ho hv hr)⟩
  rcases List.mem_cons.1 hv with g | g
  · rw [g]; exact ref_has h1
  · exact h2 v g
theorem kiB_mo (t : List Int) (o : Ob) : kiB (moO t o) = kiB o := by
  obtain ⟨cl, ki, sl, te, bi, ha⟩ := o
  cases sl with
  | nil => rfl
  | cons a l =>
    unfold kiB
    simp only [moO, List.map_cons, List.length_cons, List.length_map]
    rfl
theorem mo_ob {h : Hp} {rs : List Int} (e : liE h rs = 0) {i : Nat} (hi : i ∈ liveN h rs) {o : Ob} (ho : h.objs[i]? = some o) : obB (coH h rs).objs.length (moO (tabL h rs) o) = true := by
  have hob := may_all (li_ok e).1 _ (List.mem_of_getElem? ho)
  obtain ⟨h1, h2⟩ := ob_vals hob
  unfold obB at hob ⊢
  simp only [Bool.and_eq_true] at hob ⊢
  obtain ⟨⟨⟨-, hh⟩, hk⟩, -⟩ := hob
  refine ⟨⟨⟨?_, hh⟩, ?_⟩, ?_⟩
  · have := (va_live e (live_step e hi ho (v := o.cls) (by simp))).2.2
    rw [h1] at this
    exact this
  · rw [kiB_mo]; exact hk
  · refine List.all_eq_true.2 fun y hy => ?_
    obtain ⟨v, hv, rfl⟩ := List.mem_map.1 hy
    exact (va_live e (live_step e hi ho (List.mem_cons_of_mem _ hv))).1
theorem co_may {h : Hp} {rs : List Int} (e : liE h rs = 0) : mayB (coH h rs) = true := by
  have hm := (li_ok e).1
  have hle := liveN_le h rs
  have hl := coH_len e
  have hall : ∀ o ∈ (coH h rs).objs, obB (coH h rs).objs.length o = true := fun o ho => by
    obtain ⟨k, hk, rfl⟩ := List.getElem_of_mem ho
    obtain ⟨o, h1, h2⟩ := coH_get e (k := k) (by omega)
    rw [List.getElem?_eq_getElem hk] at h2
    rw [Option.some.inj h2]
    exact mo_ob e (List.getElem_mem (by omega)) h1
  have hc : (coH h rs).cap = h.cap ∧ (coH h rs).last = h.last := by rw [coH_yes e]; exact ⟨rfl, rfl⟩
  unfold mayB at hm ⊢
  rw [hc.1, hc.2]
  simp only [Bool.and_eq_true, decide_eq_true_eq] at hm ⊢
  exact ⟨⟨⟨hm.1.1.1, hm.1.1.2.1, by omega⟩, hm.1.2⟩, List.all_eq_true.2 hall⟩
theorem co_liE {h : Hp} {rs : List Int} (e : liE h rs = 0) : liE (coH h rs) (coL h rs) = 0 := by
  unfold liE
  rw [if_pos (co_may e), if_pos]
  refine List.all_eq_true.2 fun y hy => ?_
  rw [coL_yes e] at hy
  obtain ⟨v, hv, rfl⟩ := List.mem_map.1 hy
  exact (va_live e (live_root e hv)).1
/-- what was reached is reached at its new number -/
theorem co_reach {h : Hp} {rs : List Int} (e : liE h rs = 0) {i : Nat} (r : Reach h rs i) : Reach (coH h rs) (coL h rs) ((liveN h rs).idxOf i) := by
  have hm := (li_ok e).1
  have h256 := may_len hm
  have hle := liveN_le h rs
  have hl := coH_len e
  have key : ∀ v, refB h.objs.length v = true → (atV v).toNat ∈ liveN h rs → refB (coH h rs).objs.length (vaV (tabL h rs) v) = true ∧ (atV (vaV (tabL h rs) v)).toNat = (liveN h rs).idxOf (atV v).toNat := fun v hr hi => by
    have hx : (liveN h rs).idxOf (atV v).toNat < (liveN h rs).length := List.idxOf_lt_length_iff.2 hi
    obtain ⟨r1, r2⟩ := ref_two (n := (coH h rs).objs.length) (by omega) (by rw [hl]; exact hx)
    rw [(va_ref e hr hi).1]
    exact ⟨r1, by rw [r2]; rfl⟩
  have hs : i ∈ liveN h rs ∧ Reach (coH h rs) (coL h rs) ((liveN h rs).idxOf i) := by
    refine r.least (fun i => i ∈ liveN h rs ∧ Reach (coH h rs) (coL h rs) ((liveN h rs).idxOf i)) (fun v hv hr => ?_) (fun i o v hi ho hv hr => ?_)
    · have hi : (atV v).toNat ∈ liveN h rs := mem_liveN.2 (.root v hv hr)
      obtain ⟨k1, k2⟩ := key v hr hi
      refine ⟨hi, ?_⟩
      rw [← k2]
      exact .root _ (by rw [coL_yes e]; exact List.mem_map.2 ⟨v, hv, rfl⟩) k1
    · have hi' : (atV v).toNat ∈ liveN h rs := mem_liveN.2 (.step i o v (mem_liveN.1 hi.1) ho hv hr)
      obtain ⟨k1, k2⟩ := key v hr hi'
      have hx : (liveN h rs).idxOf i < (liveN h rs).length := List.idxOf_lt_length_iff.2 hi.1
      obtain ⟨o', ho', hc⟩ := coH_get e hx
      rw [List.getElem_idxOf hx, ho] at ho'
      obtain rfl : o = o' := Option.some.inj ho'
      refine ⟨hi', ?_⟩
      rw [← k2]
      refine .step _ (moO (tabL h rs) o) _ hi.2 hc ?_ k1
      rcases List.mem_cons.1 hv with g | g
      · rw [g]; exact List.mem_cons_self ..
      · exact List.mem_cons_of_mem _ (List.mem_map.2 ⟨v, g, rfl⟩)
  exact hs.2
theorem co_liveN {h : Hp} {rs : List Int} (e : liE h rs = 0) : liveN (coH h rs) (coL h rs) = List.range (coH h rs).objs.length := by
  unfold liveN
  refine List.filter_eq_self.2 fun k hk => ?_
  have hk' := List.mem_range.1 hk
  rw [coH_len e] at hk'
  have := co_reach e (mem_liveN.1 (List.getElem_mem hk'))
  rw [idx_get (liveN_nodup h rs) hk'] at this
  simpa using this
theorem co_live {h : Hp} {rs : List Int} (e : liE h rs = 0) : (liL (coH h rs) (coL h rs)).length = (coH h rs).objs.length := by
  rw [(li_ok (co_liE e)).2.2, liveL_length, co_liveN e, List.length_range]
theorem va_again {h : Hp} {rs : List Int} (e : liE h rs = 0) (hl : liveN h rs = List.range h.objs.length) {v : Int} (hv : hasB h.objs.length v = true) : vaV (tabL h rs) v = v := by
  cases hr : refB h.objs.length v
  · exact (va_small (has_not hv hr)).1
  · have hlt := (refB_nat hr).1
    have hi : (atV v).toNat ∈ liveN h rs := by rw [hl]; exact List.mem_range.2 hlt
    rw [(va_ref e hr hi).1, hl]
    have : (List.range h.objs.length).idxOf (atV v).toNat = (atV v).toNat := by
      have := idx_get (L := List.range h.objs.length) List.nodup_range (k := (atV v).toNat) (by simpa using hlt)
      rwa [List.getElem_range] at this
    rw [this]
    exact (nat_ref hr).symm
theorem mo_again {h : Hp} {rs : List Int} (e : liE h rs = 0) (hl : liveN h rs = List.range h.objs.length) {o : Ob} (ho : o ∈ h.objs) : moO (tabL h rs) o = o := by
  obtain ⟨h1, h2⟩ := ob_vals (may_all (li_ok e).1 _ ho)
  unfold moO
  rw [va_again e hl (ref_has h1)]
  have : o.slots.map (vaV (tabL h rs)) = o.slots := by
    conv => rhs; rw [← List.map_id o.slots]
    exact List.map_congr_left fun v hv => va_again e hl (h2 v hv)
  rw [this]
theorem all_again {h : Hp} {rs : List Int} (e : liE h rs = 0) (hl : liveN h rs = List.range h.objs.length) : coH h rs = h ∧ coL h rs = rs := by
  have h1 : (coH h rs).objs = h.objs := by
    rw [coH_objs e, hl]
    apply List.ext_getElem?
    intro j
    rw [List.getElem?_map]
    by_cases hj : j < h.objs.length
    · rw [List.getElem?_range hj, List.getElem?_eq_getElem hj]
      simp only [Option.map_some]
      rw [List.getD_eq_getElem?_getD, List.getElem?_eq_getElem hj]
      show some (moO _ h.objs[j]) = _
      rw [mo_again e hl (List.getElem_mem hj)]
    · rw [List.getElem?_eq_none (by simp; omega), List.getElem?_eq_none (by omega)]; rfl
  constructor
  · have h2 := coH_yes e
    cases hc : coH h rs with
    | mk os cp la =>
      rw [hc] at h1 h2
      injection h2 with _ h3 h4
      simp only at h1
      rw [h1, h3, h4]
  · rw [coL_yes e]
    conv => rhs; rw [← List.map_id rs]
    exact List.map_congr_left fun v hv => va_again e hl ((li_ok e).2.1 v hv)
/-- compacted again it is as it is -/
theorem co_again {h : Hp} {rs : List Int} (e : liE h rs = 0) : coH (coH h rs) (coL h rs) = coH h rs ∧ coL (coH h rs) (coL h rs) = coL h rs :=
  all_again (co_liE e) (co_liveN e)
/-- unlike values of what is reached have unlike values -/
theorem va_inj {h : Hp} {rs : List Int} (e : liE h rs = 0) {u v : Int} (hu : LiveV h rs u) (hv : LiveV h rs v) : vaV (tabL h rs) u = vaV (tabL h rs) v ↔ u = v := by
  refine ⟨fun g => ?_, fun g => by rw [g]⟩
  cases ru : refB h.objs.length u <;> cases rv : refB h.objs.length v
  · rwa [(va_small (has_not hu.1 ru)).1, (va_small (has_not hv.1 rv)).1] at g
  · have h1 := has_not hu.1 ru
    rw [(va_small h1).1, (va_ref e rv (hv.2 rv)).1] at g
    have := nB_iff.1 h1
    omega
  · have h1 := has_not hv.1 rv
    rw [(va_small h1).1, (va_ref e ru (hu.2 ru)).1] at g
    have := nB_iff.1 h1
    omega
  · rw [(va_ref e ru (hu.2 ru)).1, (va_ref e rv (hv.2 rv)).1] at g
    have h1 : (liveN h rs).idxOf (atV u).toNat = (liveN h rs).idxOf (atV v).toNat := by omega
    have h2 := List.getElem_idxOf (List.idxOf_lt_length_iff.2 (hu.2 ru))
    have h3 := List.getElem_idxOf (List.idxOf_lt_length_iff.2 (hv.2 rv))
    simp only [h1] at h2
    have h4 : (atV u).toNat = (atV v).toNat := h2.symm.trans h3
    rw [nat_ref ru, nat_ref rv, h4]
end Go.Proofs.YtnilempeldlieaaGreat
namespace Go.Proofs.YtnilempeldlieaaGreat
open Go.RowKit
/-- what an object leads to -/
def edges (h : Hp) (q : Nat) : List Int := match h.objs[q]? with | some o => o.cls :: o.slots | none => []
/-- values met one by one -/
def meets (h : Hp) (M : List Nat) (vs : List Int) : List Nat := vs.foldl (meetL h) M
/-- from the i'th one met on, at most so many, what each leads to is met -/
def bfs (h : Hp) : Nat → List Nat → Nat → List Nat
  | 0, M, _ => M
  | f + 1, M, i => match M[i]? with | some q => bfs h f (meets h M (edges h q)) (i + 1) | none => M
/-- the numbers of what is reached, in the order in which they are met -/
def ordN (h : Hp) (rs : List Int) : List Nat := bfs h h.objs.length (meets h [] rs) 0
theorem meets_nil (h : Hp) (M : List Nat) : meets h M [] = M := rfl
theorem meets_cons (h : Hp) (M : List Nat) (v : Int) (vs : List Int) : meets h M (v :: vs) = meets h (meetL h M v) vs := rfl
theorem meets_append (h : Hp) (M : List Nat) (a b : List Int) : meets h M (a ++ b) = meets h (meets h M a) b := List.foldl_append ..
theorem meets_pre (h : Hp) : ∀ (vs : List Int) (M : List Nat), ∃ t, meets h M vs = M ++ t
  | [], M => ⟨[], by rw [meets_nil, List.append_nil]⟩
  | v :: vs, M => by
    obtain ⟨t, ht⟩ := meetL_pre h M v
    obtain ⟨u, hu⟩ := meets_pre h vs (meetL h M v)
    exact ⟨t ++ u, by rw [meets_cons, hu, ht, List.append_assoc]⟩
theorem meets_get {h : Hp} {M : List Nat} {k i : Nat} (e : M[k]? = some i) (vs : List Int) : (meets h M vs)[k]? = some i := by
  obtain ⟨t, ht⟩ := meets_pre h vs M
  rw [ht, List.getElem?_append_left (List.getElem?_eq_some_iff.1 e).1, e]
theorem meets_met {h : Hp} {rs : List Int} : ∀ (vs : List Int) {M : List Nat}, Met h rs M → (∀ v ∈ vs, refB h.objs.length v = true → Reach h rs (atV v).toNat) → Met h rs (meets h M vs)
  | [], _, m, _ => m
  | v :: vs, _, m, hv => meets_met vs (m.meet (hv v (by simp))) fun u hu => hv u (List.mem_cons_of_mem _ hu)
theorem meets_keep {h : Hp} : ∀ (vs : List Int) {M : List Nat} {u : Int}, MetV h M u → MetV h (meets h M vs) u
  | [], _, _, m => m
  | v :: vs, _, _, m => meets_keep vs (m.meet (v := v))
theorem meets_all {h : Hp} : ∀ (vs : List Int) {M : List Nat}, ∀ u ∈ vs, MetV h (meets h M vs) u
  | [], _, u, hu => by simp at hu
  | v :: vs, M, u, hu => by
    rcases List.mem_cons.1 hu with g | g
    · rw [g]; exact meets_keep vs meetL_self
    · exact meets_all vs u g
theorem meets_done {h : Hp} : ∀ (vs : List Int) {M : List Nat} {k : Nat}, Done h M k → k ≤ M.length → Done h (meets h M vs) k
  | [], _, _, d, _ => d
  | v :: vs, M, k, d, hk => by
    refine meets_done vs (d.meet hk v) ?_
    obtain ⟨t, ht⟩ := meetL_pre h M v
    rw [ht, List.length_append]; omega
theorem bfs_met {h : Hp} {rs : List Int} : ∀ (f : Nat) (M : List Nat) (i : Nat), Met h rs M → (∀ v ∈ rs, MetV h M v) → Done h M i → i ≤ M.length → h.objs.length ≤ f + i →
    Met h rs (bfs h f M i) ∧ (∀ v ∈ rs, MetV h (bfs h f M i) v) ∧ Done h (bfs h f M i) (bfs h f M i).length
  | 0, M, i, m, hr, d, hi, hf => by
    have := m.len
    obtain rfl : i = M.length := by omega
    exact ⟨m, hr, d⟩
  | f + 1, M, i, m, hr, d, hi, hf => by
    unfold bfs
    by_cases hlt : i < M.length
    · rw [List.getElem?_eq_getElem hlt]
      have hq := m.lt (List.getElem_mem hlt)
      have ho := List.getElem?_eq_getElem hq
      have he : edges h M[i] = h.objs[M[i]].cls :: h.objs[M[i]].slots := by unfold edges; rw [ho]
      have hreach := m.sound _ (List.getElem_mem hlt)
      obtain ⟨t, ht⟩ := meets_pre h (edges h M[i]) M
      refine bfs_met f _ (i + 1) (meets_met _ m fun v hv hrv => .step _ _ v hreach ho (by rw [← he]; exact hv) hrv) (fun v hv => meets_keep _ (hr v hv)) ?_ (by rw [ht, List.length_append]; omega) (by omega)
      intro j q o hj hjq hoq v hv
      by_cases hji : j < i
      · exact meets_done _ d hi j q o hji hjq hoq v hv
      · obtain rfl : j = i := by omega
        have := meets_get (List.getElem?_eq_getElem hlt) (edges h M[j]) (h := h)
        rw [this] at hjq
        obtain rfl : M[j] = q := Option.some.inj hjq
        rw [ho] at hoq
        obtain rfl := Option.some.inj hoq
        exact meets_all _ v (by rw [he]; exact hv)
    · rw [List.getElem?_eq_none (by omega)]
      obtain rfl : i = M.length := by omega
      exact ⟨m, hr, d⟩
theorem start_met (h : Hp) (rs : List Int) : Met h rs (meets h [] rs) := meets_met rs ⟨List.nodup_nil, fun i hi => by simp at hi⟩ fun v hv hr => .root v hv hr
theorem ord_met (h : Hp) (rs : List Int) : Met h rs (ordN h rs) ∧ (∀ v ∈ rs, MetV h (ordN h rs) v) ∧ Done h (ordN h rs) (ordN h rs).length :=
  bfs_met _ _ 0 (start_met h rs) (fun v hv => meets_all rs v hv) (fun j i o hj => absurd hj (Nat.not_lt_zero _)) (Nat.zero_le _) (by omega)
theorem mem_ordN {h : Hp} {rs : List Int} {i : Nat} : i ∈ ordN h rs ↔ Reach h rs i := by
  obtain ⟨m, hr, d⟩ := ord_met h rs
  exact met_all m hr d i
theorem ordN_nodup (h : Hp) (rs : List Int) : (ordN h rs).Nodup := (ord_met h rs).1.nodup
theorem ordN_le (h : Hp) (rs : List Int) : (ordN h rs).length ≤ h.objs.length := (ord_met h rs).1.len
theorem ordN_lt {h : Hp} {rs : List Int} {i : Nat} (hi : i ∈ ordN h rs) : i < h.objs.length := (mem_ordN.1 hi).lt
/-- values by the numbers of a list -/
def cnV (h : Hp) (M : List Nat) (v : Int) : Int := if refB h.objs.length v = true then 2 * (M.idxOf (atV v).toNat : Int) else v
def cnO (h : Hp) (M : List Nat) (o : Ob) : Ob := { o with cls := cnV h M o.cls, slots := o.slots.map (cnV h M) }
def cnH (h : Hp) (rs : List Int) : Hp := if liE h rs = 0 then ⟨(ordN h rs).map fun q => cnO h (ordN h rs) (h.objs.getD q default), h.cap, h.last⟩ else zeroH
def cnL (h : Hp) (rs : List Int) : List Int := if liE h rs = 0 then rs.map (cnV h (ordN h rs)) else []
/-! ### The same but for numbers -/
inductive All2 {α β : Type} (R : α → β → Prop) : List α → List β → Prop
  | nil : All2 R [] []
  | cons {x : α} {y : β} {l : List α} {m : List β} : R x y → All2 R l m → All2 R (x :: l) (y :: m)
section
variable {α β : Type} {R : α → β → Prop}
theorem All2.len {l : List α} {m : List β} (h : All2 R l m) : l.length = m.length := by
  induction h with
  | nil => rfl
  | cons _ _ ih => rw [List.length_cons, List.length_cons, ih]
theorem All2.app {l l' : List α} {m m' : List β} (h : All2 R l m) (h' : All2 R l' m') : All2 R (l ++ l') (m ++ m') := by
  induction h with
  | nil => exact h'
  | cons a _ ih => exact .cons a ih
theorem All2.get {l : List α} {m : List β} (h : All2 R l m) : ∀ {i : Nat} {x : α} {y : β}, l[i]? = some x → m[i]? = some y → R x y := by
  induction h with
  | nil => intro i x y hx; simp at hx
  | cons a _ ih =>
    intro i x y hx hy
    cases i with
    | zero => simp at hx hy; rw [← hx, ← hy]; exact a
    | succ i => exact ih (by simpa using hx) (by simpa using hy)
theorem All2.of {l : List α} {m : List β} (hl : l.length = m.length) (h : ∀ (i : Nat) (x : α) (y : β), l[i]? = some x → m[i]? = some y → R x y) : All2 R l m := by
  induction l generalizing m with
  | nil => cases m with
    | nil => exact .nil
    | cons y m => simp at hl
  | cons x l ih => cases m with
    | nil => simp at hl
    | cons y m => exact .cons (h 0 x y rfl rfl) (ih (by simpa using hl) fun i u v hu hv => h (i + 1) u v (by simpa using hu) (by simpa using hv))
theorem All2.map_eq {γ : Type} {f : α → γ} {g : β → γ} {l : List α} {m : List β} (h : All2 R l m) (hfg : ∀ x y, R x y → f x = g y) : l.map f = m.map g := by
  induction h with
  | nil => rfl
  | cons a _ ih => rw [List.map_cons, List.map_cons, ih, hfg _ _ a]
theorem All2.turn {l : List α} {m : List β} (h : All2 R l m) : All2 (fun y x => R x y) m l := by
  induction h with
  | nil => exact .nil
  | cons a _ ih => exact .cons a ih
theorem All2.imp {S : α → β → Prop} {l : List α} {m : List β} (h : All2 R l m) (hs : ∀ x y, R x y → S x y) : All2 S l m := by
  induction h with
  | nil => exact .nil
  | cons a _ ih => exact .cons (hs _ _ a) ih
end
/-- two values are the same by a pairing -/
def ValR (a b : Hp) (R : Nat → Nat → Prop) (v w : Int) : Prop :=
  (refB a.objs.length v = false ∧ refB b.objs.length w = false ∧ v = w) ∨ (refB a.objs.length v = true ∧ refB b.objs.length w = true ∧ R (atV v).toNat (atV w).toNat)
structure ObR (a b : Hp) (R : Nat → Nat → Prop) (x y : Ob) : Prop where
  cls : ValR a b R x.cls y.cls
  kind : x.kind = y.kind
  slots : All2 (ValR a b R) x.slots y.slots
  text : x.text = y.text
  bits : x.bits = y.bits
  hash : x.hash = y.hash
structure Pairs (a : Hp) (p : List Int) (b : Hp) (q : List Int) (R : Nat → Nat → Prop) : Prop where
  roots : All2 (ValR a b R) p q
  obs : ∀ i k x y, R i k → a.objs[i]? = some x → b.objs[k]? = some y → ObR a b R x y
  fn : ∀ i k l, R i k → R i l → k = l
  inj : ∀ i j k, R i k → R j k → i = j
def SameP (a : Hp) (p : List Int) (b : Hp) (q : List Int) : Prop := liE a p = 0 ∧ liE b q = 0 ∧ ∃ R, Pairs a p b q R
section
variable {a b : Hp} {p q : List Int} {R : Nat → Nat → Prop}
theorem all2_mem (hf : ∀ i k l, R i k → R i l → k = l) (hi : ∀ i j k, R i k → R j k → i = j) {M N : List Nat} (h : All2 R M N) {i k : Nat} (hr : R i k) : i ∈ M ↔ k ∈ N := by
  induction h with
  | nil => simp
  | cons h1 _ ih =>
    simp only [List.mem_cons, ih]
    constructor
    · rintro (g | g)
      · exact .inl (hf _ _ _ hr (g ▸ h1))
      · exact .inr g
    · rintro (g | g)
      · exact .inl (hi _ _ _ hr (g ▸ h1))
      · exact .inr g
theorem all2_idx (hf : ∀ i k l, R i k → R i l → k = l) (hi : ∀ i j k, R i k → R j k → i = j) {M N : List Nat} (h : All2 R M N) {i k : Nat} (hr : R i k) : M.idxOf i = N.idxOf k := by
  induction h with
  | nil => rfl
  | @cons x y M N h1 _ ih =>
    rw [List.idxOf_cons, List.idxOf_cons, ih]
    have : (x == i) = (y == k) := by
      by_cases g : x = i
      · have : y = k := hf _ _ _ (g ▸ h1) hr
        simp [g, this]
      · have : ¬ y = k := fun e => g (hi _ _ _ h1 (e ▸ hr))
        rw [beq_eq_false_iff_ne.2 g, beq_eq_false_iff_ne.2 this]
    rw [this]
theorem meet_two (P : Pairs a p b q R) {M N : List Nat} (h : All2 R M N) {v w : Int} (hv : ValR a b R v w) : All2 R (meetL a M v) (meetL b N w) := by
  unfold meetL
  rcases hv with ⟨h1, h2, -⟩ | ⟨h1, h2, h3⟩
  · rw [if_neg (by rw [h1]; simp), if_neg (by rw [h2]; simp)]; exact h
  · have := all2_mem P.fn P.inj h h3
    by_cases g : (atV v).toNat ∈ M
    · rw [if_neg (by simp [g]), if_neg (by simp [this.1 g])]; exact h
    · rw [if_pos ⟨h1, g⟩, if_pos ⟨h2, fun k => g (this.2 k)⟩]
      exact h.app (.cons h3 .nil)
theorem meets_two (P : Pairs a p b q R) {vs ws : List Int} (hv : All2 (ValR a b R) vs ws) : ∀ {M N : List Nat}, All2 R M N → All2 R (meets a M vs) (meets b N ws) := by
  induction hv with
  | nil => intro M N h; exact h
  | cons h1 _ ih => intro M N h; exact ih (meet_two P h h1)
theorem edges_two (P : Pairs a p b q R) {i k : Nat} (hr : R i k) (hi : i < a.objs.length) (hk : k < b.objs.length) : All2 (ValR a b R) (edges a i) (edges b k) := by
  have h1 := List.getElem?_eq_getElem hi
  have h2 := List.getElem?_eq_getElem hk
  have o := P.obs i k _ _ hr h1 h2
  unfold edges
  rw [h1, h2]
  exact .cons o.cls o.slots
theorem bfs_two (P : Pairs a p b q R) : ∀ (f g : Nat) {M N : List Nat} (i : Nat), All2 R M N → Met a p M → Met b q N → (∀ v ∈ p, MetV a M v) → (∀ v ∈ q, MetV b N v) → Done a M i → Done b N i → i ≤ M.length → a.objs.length ≤ f + i → b.objs.length ≤ g + i →
    All2 R (bfs a f M i) (bfs b g N i)
  | f, g, M, N, i, h, ma, mb, ra, rb, da, db, hi, hf, hg => by
    have hlen := h.len
    by_cases hlt : i < M.length
    · have hltN : i < N.length := by omega
      have hla := ma.len
      have hlb := mb.len
      obtain ⟨f', rfl⟩ : ∃ f', f = f' + 1 := ⟨f - 1, by omega⟩
      obtain ⟨g', rfl⟩ : ∃ g', g = g' + 1 := ⟨g - 1, by omega⟩
      have e1 := List.getElem?_eq_getElem hlt
      have e2 := List.getElem?_eq_getElem hltN
      have hr := h.get e1 e2
      have hqa := ma.lt (List.getElem_mem hlt)
      have hqb := mb.lt (List.getElem_mem hltN)
      have E := edges_two P hr hqa hqb
      have step : ∀ (c : Hp) (rs : List Int) (L : List Nat) (hlL : i < L.length), Met c rs L → (∀ v ∈ rs, MetV c L v) → Done c L i → L[i] < c.objs.length →
          Met c rs (meets c L (edges c L[i])) ∧ (∀ v ∈ rs, MetV c (meets c L (edges c L[i])) v) ∧ Done c (meets c L (edges c L[i])) (i + 1) ∧ i + 1 ≤ (meets c L (edges c L[i])).length := by
        intro c rs L hlL m hr d hq
        have ho := List.getElem?_eq_getElem hq
        have he : edges c L[i] = c.objs[L[i]].cls :: c.objs[L[i]].slots := by unfold edges; rw [ho]
        have hreach := m.sound _ (List.getElem_mem hlL)
        obtain ⟨t, ht⟩ := meets_pre c (edges c L[i]) L
        refine ⟨meets_met _ m fun v hv hrv => .step _ _ v hreach ho (by rw [← he]; exact hv) hrv, fun v hv => meets_keep _ (hr v hv), ?_, by rw [ht, List.length_append]; omega⟩
        intro j z o hj hjq hoq v hv
        by_cases hji : j < i
        · exact meets_done _ d (by omega) j z o hji hjq hoq v hv
        · obtain rfl : j = i := by omega
          have := meets_get (List.getElem?_eq_getElem hlL) (edges c L[j]) (h := c)
          rw [this] at hjq
          obtain rfl : L[j] = z := Option.some.inj hjq
          rw [ho] at hoq
          obtain rfl := Option.some.inj hoq
          exact meets_all _ v (by rw [he]; exact hv)
      obtain ⟨a1, a2, a3, a4⟩ := step a p M hlt ma ra da hqa
      obtain ⟨b1, b2, b3, b4⟩ := step b q N hltN mb rb db hqb
      unfold bfs
      rw [e1, e2]
      exact bfs_two P f' g' (i + 1) (meets_two P E h) a1 b1 a2 b2 a3 b3 a4 (by omega) (by omega)
    · have n1 : M[i]? = none := List.getElem?_eq_none (by omega)
      have n2 : N[i]? = none := List.getElem?_eq_none (by omega)
      have s1 : bfs a f M i = M := by cases f with
        | zero => rfl
        | succ f => unfold bfs; rw [n1]
      have s2 : bfs b g N i = N := by cases g with
        | zero => rfl
        | succ g => unfold bfs; rw [n2]
      rw [s1, s2]; exact h
  termination_by f => f
theorem ord_two (P : Pairs a p b q R) : All2 R (ordN a p) (ordN b q) :=
  bfs_two P _ _ 0 (meets_two P P.roots .nil) (start_met a p) (start_met b q) (fun v hv => meets_all p v hv) (fun v hv => meets_all q v hv) (fun j i o hj => absurd hj (Nat.not_lt_zero _)) (fun j i o hj => absurd hj (Nat.not_lt_zero _)) (Nat.zero_le _) (by omega) (by omega)
/-- by a pairing, values have the same numbers -/
theorem cnV_two (P : Pairs a p b q R) {v w : Int} (h : ValR a b R v w) : cnV a (ordN a p) v = cnV b (ordN b q) w := by
  unfold cnV
  rcases h with ⟨h1, h2, h3⟩ | ⟨h1, h2, h3⟩
  · rw [if_neg (by rw [h1]; decide), if_neg (by rw [h2]; decide), h3]
  · rw [if_pos h1, if_pos h2, all2_idx P.fn P.inj (ord_two P) h3]
theorem cnO_two (P : Pairs a p b q R) {x y : Ob} (h : ObR a b R x y) : cnO a (ordN a p) x = cnO b (ordN b q) y := by
  unfold cnO
  rw [cnV_two P h.cls, h.slots.map_eq fun v w hv => cnV_two P hv]
  obtain ⟨xc, xk, xs, xt, xb, xh⟩ := x
  obtain ⟨yc, yk, ys, yt, yb, yh⟩ := y
  have h1 := h.kind
  have h2 := h.text
  have h3 := h.bits
  have h4 := h.hash
  simp only at h1 h2 h3 h4
  subst h1 h2 h3 h4
  rfl
end
/-- the same but for numbers are told the same -/
theorem same_told {a b : Hp} {p q : List Int} (h : SameP a p b q) : (cnH a p).objs = (cnH b q).objs ∧ cnL a p = cnL b q := by
  obtain ⟨ha, hb, R, P⟩ := h
  have hO := ord_two P
  unfold cnH cnL
  rw [if_pos ha, if_pos hb, if_pos ha, if_pos hb]
  constructor
  · show (ordN a p).map _ = (ordN b q).map _
    have key : All2 (fun i k => i < a.objs.length ∧ k < b.objs.length ∧ R i k) (ordN a p) (ordN b q) := All2.of hO.len fun i x y hx hy => ⟨ordN_lt (List.mem_of_getElem? hx), ordN_lt (List.mem_of_getElem? hy), hO.get hx hy⟩
    refine key.map_eq fun i k hik => ?_
    obtain ⟨h1, h2, h3⟩ := hik
    have e1 := List.getElem?_eq_getElem h1
    have e2 := List.getElem?_eq_getElem h2
    rw [List.getD_eq_getElem?_getD, List.getD_eq_getElem?_getD, e1, e2]
    exact cnO_two P (P.obs i k _ _ h3 e1 e2)
  · exact P.roots.map_eq fun v w hv => cnV_two P hv
end Go.Proofs.YtnilempeldlieaaGreat
