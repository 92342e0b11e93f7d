/- States: whether one may be, its roots, what it is collected, objects that change places, one object more: over plain states. Stores into a box of a state: what lies beside it. The state of the calls whose answers are fixed. -/
import Derived.Test.YtnilempeldlieaaGreatM07
import Derived.Test.YtnilempeldlieaaGreatM05
namespace Go.Proofs.YtnilempeldlieaaGreat
open Go.RowKit
structure St where
  hp : Hp
  proc : Int
  ready : Int
  halt : Int
  steps : Int
  used : Int
def ckB (s : St) : Bool := mayB s.hp && decide (12 ≤ s.hp.objs.length) && refB s.hp.objs.length s.proc && refB s.hp.objs.length s.ready && decide (0 ≤ s.halt ∧ s.halt ≤ 255) && decide (0 ≤ s.steps ∧ s.steps ≤ 1099511627776) && decide (0 ≤ s.used ∧ s.used ≤ 1000)
structure Ck15 (s : St) : Prop where
  may : mayB s.hp = true
  len : 12 ≤ s.hp.objs.length
  proc : refB s.hp.objs.length s.proc = true
  ready : refB s.hp.objs.length s.ready = true
  halt : 0 ≤ s.halt ∧ s.halt ≤ 255
  steps : 0 ≤ s.steps ∧ s.steps ≤ 1099511627776
  used : 0 ≤ s.used ∧ s.used ≤ 1000
theorem ck_iff {s : St} : ckB s = true ↔ Ck15 s := by
  unfold ckB
  simp only [Bool.and_eq_true, decide_eq_true_eq]
  exact ⟨fun ⟨⟨⟨⟨⟨⟨a, b⟩, c⟩, d⟩, e⟩, f⟩, g⟩ => ⟨a, b, c, d, e, f, g⟩, fun ⟨a, b, c, d, e, f, g⟩ => ⟨⟨⟨⟨⟨⟨a, b⟩, c⟩, d⟩, e⟩, f⟩, g⟩⟩
def sp15 : List Int := [0, 2, 4, 6, 8, 10, 12, 14, 16, 18, 20, 22]
def rt15 (s : St) : List Int := sp15 ++ [s.proc, s.ready]
theorem rt15_len (s : St) : (rt15 s).length = 14 := rfl
theorem sp15_eq : sp15 = (List.range 12).map fun (i : Nat) => 2 * (i : Int) := by decide
theorem mem_sp15 {i : Nat} (hi : i < 12) : 2 * (i : Int) ∈ sp15 := by rw [sp15_eq]; exact List.mem_map.2 ⟨i, List.mem_range.2 hi, rfl⟩
theorem sp15_of {v : Int} (h : v ∈ sp15) : ∃ i : Nat, i < 12 ∧ v = 2 * (i : Int) := by
  rw [sp15_eq] at h
  obtain ⟨i, hi, rfl⟩ := List.mem_map.1 h
  exact ⟨i, List.mem_range.1 hi, rfl⟩
def zeroS : St := ⟨zeroH, 0, 0, 0, 0, 0⟩
noncomputable def cl15 (s : St) : St := ⟨coH s.hp (rt15 s), vaV (tabL s.hp (rt15 s)) s.proc, vaV (tabL s.hp (rt15 s)) s.ready, s.halt, s.steps, s.used⟩
theorem rt_li {s : St} (c : Ck15 s) : liE s.hp (rt15 s) = 0 := by
  unfold liE
  rw [if_pos c.may, if_pos]
  refine List.all_eq_true.2 fun v hv => ?_
  have h256 := may_len c.may
  have hl := c.len
  rcases List.mem_append.1 hv with g | g
  · obtain ⟨i, hi, rfl⟩ := sp15_of g
    exact ref_has (ref_two h256 (by omega)).1
  · rcases List.mem_cons.1 g with rfl | g
    · exact ref_has c.proc
    · rcases List.mem_cons.1 g with rfl | g
      · exact ref_has c.ready
      · cases g
/-! ### the first twelve keep their numbers -/
theorem sp_live {s : St} (c : Ck15 s) {i : Nat} (hi : i < 12) : i ∈ liveN s.hp (rt15 s) := by
  have hl := c.len
  have h256 := may_len c.may
  obtain ⟨r1, r2⟩ := ref_two h256 (show i < s.hp.objs.length by omega)
  have := mem_liveN.2 (Reach.root (h := s.hp) (rs := rt15 s) (2 * (i : Int)) (List.mem_append_left _ (mem_sp15 hi)) r1)
  rw [r2] at this
  exact this
theorem live_head {s : St} (c : Ck15 s) : ∃ t, liveN s.hp (rt15 s) = List.range 12 ++ t := by
  have hl := c.len
  obtain ⟨m, hm⟩ : ∃ m, s.hp.objs.length = 12 + m := ⟨s.hp.objs.length - 12, by omega⟩
  have hL := fun i hi => mem_liveN.1 (sp_live c (i := i) hi)
  unfold liveN
  rw [hm, List.range_add, List.filter_append]
  refine ⟨_, congrArg (· ++ _) (List.filter_eq_self.2 fun i hi => ?_)⟩
  simp only [decide_eq_true_eq]
  exact hL i (List.mem_range.1 hi)
theorem idx_range {n i : Nat} (hi : i < n) (t : List Nat) : (List.range n ++ t).idxOf i = i := by
  have hl : i < (List.range n).length := by rw [List.length_range]; exact hi
  have h1 := (List.nodup_range (n := n)).idxOf_getElem i hl
  rw [List.getElem_range] at h1
  rw [List.idxOf_append, if_pos (List.mem_range.2 hi), h1]
theorem sp_idx {s : St} (c : Ck15 s) {i : Nat} (hi : i < 12) : (liveN s.hp (rt15 s)).idxOf i = i := by
  obtain ⟨t, ht⟩ := live_head c
  rw [ht]
  exact idx_range hi t
theorem sp_val {s : St} (c : Ck15 s) {i : Nat} (hi : i < 12) : vaV (tabL s.hp (rt15 s)) (2 * (i : Int)) = 2 * (i : Int) := by
  have hl := c.len
  have h256 := may_len c.may
  obtain ⟨r1, r2⟩ := ref_two h256 (show i < s.hp.objs.length by omega)
  have hn : (atV (2 * (i : Int))).toNat = i := by rw [r2]; rfl
  rw [(va_ref (rt_li c) r1 (by rw [hn]; exact sp_live c hi)).1, hn, sp_idx c hi]
theorem co_roots {s : St} (c : Ck15 s) : coL s.hp (rt15 s) = rt15 (cl15 s) := by
  rw [coL_yes (rt_li c)]
  unfold rt15
  rw [List.map_append]
  congr 1
  rw [sp15_eq, List.map_map]
  apply List.map_congr_left
  intro i hi
  have := sp_val c (List.mem_range.1 hi)
  unfold rt15 at this
  rw [sp15_eq] at this
  exact this
theorem co_ck {s : St} (c : Ck15 s) : Ck15 (cl15 s) := by
  have e := rt_li c
  refine ⟨co_may e, ?_, ?_, ?_, c.halt, c.steps, c.used⟩
  · obtain ⟨t, ht⟩ := live_head c
    show 12 ≤ (coH s.hp (rt15 s)).objs.length
    rw [coH_len e, ht, List.length_append, List.length_range]; omega
  · show refB (coH s.hp (rt15 s)).objs.length (vaV (tabL s.hp (rt15 s)) s.proc) = true
    rw [(va_live e (live_root e (v := s.proc) (by unfold rt15; simp))).2.2]; exact c.proc
  · show refB (coH s.hp (rt15 s)).objs.length (vaV (tabL s.hp (rt15 s)) s.ready) = true
    rw [(va_live e (live_root e (v := s.ready) (by unfold rt15; simp))).2.2]; exact c.ready
/-! ### a heap compacted is the same but for numbers -/
theorem co_val {h : Hp} {rs : List Int} (e : liE h rs = 0) {v : Int} (hl : LiveV h rs v) :
    ValR h (coH h rs) (fun i k => i ∈ liveN h rs ∧ (liveN h rs).idxOf i = k) v (vaV (tabL h rs) v) := by
  obtain ⟨h1, -, h3⟩ := va_live e hl
  have h256 := may_len (li_ok e).1
  have hle := liveN_le h rs
  cases hr : refB h.objs.length v
  · rw [hr] at h3
    exact .inl ⟨hr, h3, (va_small (has_not hl.1 hr)).1.symm⟩
  · rw [hr] at h3
    have hi := hl.2 hr
    have hx : (liveN h rs).idxOf (atV v).toNat < (liveN h rs).length := List.idxOf_lt_length_iff.2 hi
    refine .inr ⟨hr, h3, hi, ?_⟩
    rw [(va_ref e hr hi).1, (ref_two (n := 256) (Nat.le_refl _) (show (liveN h rs).idxOf (atV v).toNat < 256 by omega)).2]
    rfl
theorem co_pairs {h : Hp} {rs : List Int} (e : liE h rs = 0) : Pairs h rs (coH h rs) (coL h rs) (fun i k => i ∈ liveN h rs ∧ (liveN h rs).idxOf i = k) where
  roots := by
    rw [coL_yes e]
    exact all2_map fun v hv => co_val e (live_root e hv)
  obs := fun i k x y ⟨hi, hk⟩ hx hy => by
    subst hk
    have hlt : (liveN h rs).idxOf i < (liveN h rs).length := List.idxOf_lt_length_iff.2 hi
    obtain ⟨o, h1, h2⟩ := coH_get e hlt
    rw [List.getElem_idxOf hlt, hx] at h1
    rw [hy] at h2
    obtain rfl := Option.some.inj h1
    obtain rfl := Option.some.inj h2
    exact ⟨co_val e (live_step e hi hx (List.mem_cons_self ..)), rfl, all2_map fun v hv => co_val e (live_step e hi hx (List.mem_cons_of_mem _ hv)), rfl, rfl, rfl⟩
  fn := fun i k l hk hl => hk.2.symm.trans hl.2
  inj := fun i j k ⟨hi, hk⟩ ⟨hj, hl⟩ => by
    have h1 := List.getElem_idxOf (List.idxOf_lt_length_iff.2 hi)
    have h2 := List.getElem_idxOf (List.idxOf_lt_length_iff.2 hj)
    rw [← h1, ← h2]
    simp only [hk, hl]
theorem co_same15 {s : St} (c : Ck15 s) : SameP s.hp (rt15 s) (cl15 s).hp (rt15 (cl15 s)) := by
  have e := rt_li c
  rw [← co_roots c]
  exact ⟨e, co_liE e, _, co_pairs e⟩
theorem co_twice {s : St} (c : Ck15 s) : cl15 (cl15 s) = cl15 s := by
  have e := rt_li c
  obtain ⟨h1, h2⟩ := co_again e
  have e2 := rt_li (co_ck c)
  rw [co_roots c] at h1 h2
  rw [coL_yes (show liE (coH s.hp (rt15 s)) (rt15 (cl15 s)) = 0 from e2)] at h2
  have hp : vaV (tabL (cl15 s).hp (rt15 (cl15 s))) (cl15 s).proc = (cl15 s).proc ∧ vaV (tabL (cl15 s).hp (rt15 (cl15 s))) (cl15 s).ready = (cl15 s).ready := by
    have h3 : ∀ v ∈ rt15 (cl15 s), vaV (tabL (cl15 s).hp (rt15 (cl15 s))) v = v := by
      intro v hv
      obtain ⟨k, hk⟩ := List.mem_iff_getElem?.1 hv
      have h4 := congrArg (fun l => l[k]?) h2
      simp only [List.getElem?_map] at h4
      rw [hk] at h4
      exact Option.some.inj h4
    exact ⟨h3 _ (by unfold rt15; simp), h3 _ (by unfold rt15; simp)⟩
  show (⟨coH (cl15 s).hp (rt15 (cl15 s)), vaV (tabL (cl15 s).hp (rt15 (cl15 s))) (cl15 s).proc, vaV (tabL (cl15 s).hp (rt15 (cl15 s))) (cl15 s).ready, s.halt, s.steps, s.used⟩ : St) = _
  rw [hp.1, hp.2]
  show (⟨coH (coH s.hp (rt15 s)) (rt15 (cl15 s)), _, _, _, _, _⟩ : St) = _
  rw [h1]
  rfl
theorem co_all {s : St} (c : Ck15 s) : (liL (cl15 s).hp (rt15 (cl15 s))).length = (cl15 s).hp.objs.length := by
  rw [← co_roots c]; exact co_live (rt_li c)
theorem co_first {s : St} (c : Ck15 s) {i : Nat} (hi : i < 12) : ∃ o p, s.hp.objs[i]? = some o ∧ (cl15 s).hp.objs[i]? = some p ∧ p.hash = o.hash ∧ p.kind = o.kind := by
  have e := rt_li c
  have hlt : (liveN s.hp (rt15 s)).idxOf i < (liveN s.hp (rt15 s)).length := List.idxOf_lt_length_iff.2 (sp_live c hi)
  obtain ⟨o, h1, h2⟩ := coH_get e hlt
  rw [List.getElem_idxOf hlt] at h1
  rw [sp_idx c hi] at h2
  exact ⟨o, _, h1, h2, rfl, rfl⟩
/-! ### states the same but for numbers -/
noncomputable def ssB (a b : St) : Bool := @decide (ckB a = true ∧ ckB b = true ∧ a.halt = b.halt ∧ a.steps = b.steps ∧ a.used = b.used ∧ SameP a.hp (rt15 a) b.hp (rt15 b)) (Classical.propDecidable _)
theorem ssB_iff {a b : St} : ssB a b = true ↔ ckB a = true ∧ ckB b = true ∧ a.halt = b.halt ∧ a.steps = b.steps ∧ a.used = b.used ∧ SameP a.hp (rt15 a) b.hp (rt15 b) := by unfold ssB; exact @decide_eq_true_iff _ (Classical.propDecidable _)
theorem ssB_no {a b : St} (h : ¬ (ckB a = true ∧ ckB b = true ∧ a.halt = b.halt ∧ a.steps = b.steps ∧ a.used = b.used ∧ SameP a.hp (rt15 a) b.hp (rt15 b))) : ssB a b = false := by
  cases g : ssB a b
  · rfl
  · exact absurd (ssB_iff.1 g) h
theorem ss_turn {a b : St} (h : ssB a b = true) : ssB b a = true := by
  obtain ⟨h1, h2, h3, h4, h5, h6⟩ := ssB_iff.1 h
  exact ssB_iff.2 ⟨h2, h1, h3.symm, h4.symm, h5.symm, h6.turn⟩
theorem ss_then {a b c : St} (h : ssB a b = true) (g : ssB b c = true) : ssB a c = true := by
  obtain ⟨h1, h2, h3, h4, h5, h6⟩ := ssB_iff.1 h
  obtain ⟨g1, g2, g3, g4, g5, g6⟩ := ssB_iff.1 g
  exact ssB_iff.2 ⟨h1, g2, h3.trans g3, h4.trans g4, h5.trans g5, h6.then g6⟩
theorem ss_cl {s : St} (c : Ck15 s) : ssB s (cl15 s) = true := ssB_iff.2 ⟨ck_iff.2 c, ck_iff.2 (co_ck c), rfl, rfl, rfl, co_same15 c⟩
/-! ### objects that change places -/
def rn15 (s : St) (pm : List Int) : St := ⟨⟨rnK s.hp pm s.hp.objs.length, s.hp.cap, s.hp.last⟩, rnV s.hp.objs.length pm s.proc, rnV s.hp.objs.length pm s.ready, s.halt, s.steps, s.used⟩
theorem rn_roots {s : St} (c : Ck15 s) {pm : List Int} (hf : ∀ i < 12, pm.getD i 0 = (i : Int)) : (rt15 s).map (rnV s.hp.objs.length pm) = rt15 (rn15 s pm) := by
  unfold rt15
  rw [List.map_append]
  congr 1
  rw [sp15_eq, List.map_map]
  apply List.map_congr_left
  intro i hi
  have hi := List.mem_range.1 hi
  have hl := c.len
  obtain ⟨r1, r2⟩ := ref_two (may_len c.may) (show i < s.hp.objs.length by omega)
  show rnV _ pm (2 * (i : Int)) = 2 * (i : Int)
  unfold rnV
  rw [if_pos r1, r2]
  show 2 * pm.getD i 0 = _
  rw [hf i hi]
theorem ss_rn {s : St} (c : Ck15 s) {pm : List Int} (P : PermL pm s.hp.objs.length) (hf : ∀ i < 12, pm.getD i 0 = (i : Int)) : ssB s (rn15 s pm) = true := by
  have r := rn_ren P
  have e := rt_li c
  have h256 := may_len c.may
  have hs := r.same e
  rw [rn_roots c hf] at hs
  refine ssB_iff.2 ⟨ck_iff.2 c, ck_iff.2 ⟨r.may c.may, ?_, ?_, ?_, c.halt, c.steps, c.used⟩, rfl, rfl, rfl, hs⟩
  · show 12 ≤ (rnK s.hp pm s.hp.objs.length).length
    rw [rnK_len]; exact c.len
  · exact ((r.has h256 (ref_has c.proc)).2).trans c.proc
  · exact ((r.has h256 (ref_has c.ready)).2).trans c.ready
theorem rn_at {n : Nat} {pm : List Int} {v : Int} (hr : refB n v = true) : rnV n pm v = 2 * pm.getD (v / 2).toNat 0 := by
  unfold rnV
  rw [if_pos hr]
  have a := (refB_no hr).1
  have : atV v = v / 2 := by unfold atV; rw [if_pos a]
  rw [this]
/-! ### one object more, behind, that nobody has -/
def gb15 (s : St) (o : Ob) : St := { s with hp := ⟨s.hp.objs ++ [o], s.hp.cap, s.hp.last⟩ }
theorem ref_more {n : Nat} {v : Int} (hv : hasB n v = true) : refB (n + 1) v = refB n v := by
  cases hr : refB n v
  · have hn := has_not hv hr
    cases hc : refB (n + 1) v
    · rfl
    · rw [nB_no hc] at hn; cases hn
  · obtain ⟨a, b, d⟩ := refB_no hr
    unfold refB
    rw [a, Bool.true_and]
    exact decide_eq_true (by push_cast; omega)
section
variable {h : Hp} {o : Ob} {rs : List Int}
theorem more_at {i : Nat} (hi : i < h.objs.length) : (h.objs ++ [o])[i]? = h.objs[i]? := List.getElem?_append_left hi
theorem more_reach (e : liE h rs = 0) {i : Nat} : Reach ⟨h.objs ++ [o], h.cap, h.last⟩ rs i ↔ Reach h rs i := by
  obtain ⟨hm, hv, -⟩ := li_ok e
  have hlen : (h.objs ++ [o]).length = h.objs.length + 1 := by simp
  constructor
  · intro r
    refine r.least (Reach h rs) (fun v hv' hr => ?_) (fun i x v hi hx hv' hr => ?_)
    · rw [show (⟨h.objs ++ [o], h.cap, h.last⟩ : Hp).objs.length = h.objs.length + 1 from hlen, ref_more (hv v hv')] at hr
      exact .root v hv' hr
    · rw [show (⟨h.objs ++ [o], h.cap, h.last⟩ : Hp).objs = h.objs ++ [o] from rfl, more_at hi.lt] at hx
      obtain ⟨o1, o2⟩ := ob_vals (may_all hm _ (List.mem_of_getElem? hx))
      have hb : hasB h.objs.length v = true := by
        rcases List.mem_cons.1 hv' with g | g
        · rw [g]; exact ref_has o1
        · exact o2 v g
      rw [show (⟨h.objs ++ [o], h.cap, h.last⟩ : Hp).objs.length = h.objs.length + 1 from hlen, ref_more hb] at hr
      exact .step i x v hi hx hv' hr
  · intro r
    refine r.least (Reach ⟨h.objs ++ [o], h.cap, h.last⟩ rs) (fun v hv' hr => ?_) (fun i x v hi hx hv' hr => ?_)
    · refine .root v hv' ?_
      rw [show (⟨h.objs ++ [o], h.cap, h.last⟩ : Hp).objs.length = h.objs.length + 1 from hlen, ref_more (ref_has hr)]; exact hr
    · refine .step i x v hi ?_ hv' ?_
      · rw [show (⟨h.objs ++ [o], h.cap, h.last⟩ : Hp).objs = h.objs ++ [o] from rfl, more_at (List.getElem?_eq_some_iff.1 hx).1]; exact hx
      · rw [show (⟨h.objs ++ [o], h.cap, h.last⟩ : Hp).objs.length = h.objs.length + 1 from hlen, ref_more (ref_has hr)]; exact hr
theorem more_live (e : liE h rs = 0) : liveN ⟨h.objs ++ [o], h.cap, h.last⟩ rs = liveN h rs := by
  have hlen : (h.objs ++ [o]).length = h.objs.length + 1 := by simp
  unfold liveN
  rw [show (⟨h.objs ++ [o], h.cap, h.last⟩ : Hp).objs.length = h.objs.length + 1 from hlen, List.range_succ, List.filter_append]
  have h1 : ([h.objs.length] : List Nat).filter (fun i => @decide (Reach ⟨h.objs ++ [o], h.cap, h.last⟩ rs i) (Classical.propDecidable _)) = [] := by
    refine List.filter_eq_nil_iff.2 fun i hi => ?_
    rw [List.mem_singleton.1 hi]
    simp only [decide_eq_true_eq]
    intro r
    have := ((more_reach e).1 r).lt
    omega
  rw [h1, List.append_nil]
  apply List.filter_congr
  intro i _
  exact decide_eq_decide.2 (more_reach e)
theorem more_val (e : liE h rs = 0) (e2 : liE ⟨h.objs ++ [o], h.cap, h.last⟩ rs = 0) {v : Int} (hl : LiveV h rs v) : vaV (tabL ⟨h.objs ++ [o], h.cap, h.last⟩ rs) v = vaV (tabL h rs) v := by
  have hlen : (h.objs ++ [o]).length = h.objs.length + 1 := by simp
  cases hr : refB h.objs.length v
  · have hn := has_not hl.1 hr
    rw [(va_small hn).1, (va_small hn).1]
  · have hr2 : refB (h.objs ++ [o]).length v = true := by rw [hlen, ref_more hl.1]; exact hr
    rw [(va_ref e hr (hl.2 hr)).1, (va_ref e2 hr2 (by rw [more_live e]; exact hl.2 hr)).1, more_live e]
theorem more_co (e : liE h rs = 0) (e2 : liE ⟨h.objs ++ [o], h.cap, h.last⟩ rs = 0) : coH ⟨h.objs ++ [o], h.cap, h.last⟩ rs = coH h rs := by
  have h1 := coH_objs e
  have h2 := coH_objs e2
  rw [more_live e] at h2
  have h3 : (coH ⟨h.objs ++ [o], h.cap, h.last⟩ rs).objs = (coH h rs).objs := by
    rw [h1, h2]
    apply List.map_congr_left
    intro i hi
    have hlt := liveN_lt hi
    have ha : (h.objs ++ [o]).getD i default = h.objs.getD i default := by rw [List.getD_eq_getElem?_getD, List.getD_eq_getElem?_getD, more_at hlt]
    show moO _ ((h.objs ++ [o]).getD i default) = _
    rw [ha]
    have hx : h.objs[i]? = some (h.objs.getD i default) := by rw [List.getD_eq_getElem?_getD, List.getElem?_eq_getElem hlt]; rfl
    unfold moO
    rw [more_val e e2 (live_step e hi hx (List.mem_cons_self ..))]
    congr 1
    apply List.map_congr_left
    intro v hv
    exact more_val e e2 (live_step e hi hx (List.mem_cons_of_mem _ hv))
  rw [coH_yes e, coH_yes e2] at h3 ⊢
  simp only [Hp.mk.injEq, and_true] at h3 ⊢
  exact h3
end
theorem gb_cl {s : St} {o : Ob} (c : Ck15 s) (d : Ck15 (gb15 s o)) : cl15 (gb15 s o) = cl15 s := by
  have e := rt_li c
  have e2 : liE ⟨s.hp.objs ++ [o], s.hp.cap, s.hp.last⟩ (rt15 s) = 0 := rt_li d
  have h1 := more_co e e2
  have h2 := more_val e e2 (live_root e (v := s.proc) (by unfold rt15; simp))
  have h3 := more_val e e2 (live_root e (v := s.ready) (by unfold rt15; simp))
  show (⟨coH ⟨s.hp.objs ++ [o], s.hp.cap, s.hp.last⟩ (rt15 s), vaV (tabL ⟨s.hp.objs ++ [o], s.hp.cap, s.hp.last⟩ (rt15 s)) s.proc, vaV (tabL ⟨s.hp.objs ++ [o], s.hp.cap, s.hp.last⟩ (rt15 s)) s.ready, s.halt, s.steps, s.used⟩ : St) = _
  rw [h1, h2, h3]
  rfl
theorem ss_gb {s : St} {o : Ob} (c : Ck15 s) (d : Ck15 (gb15 s o)) : ssB s (gb15 s o) = true := by
  have h1 := ss_cl c
  have h2 := ss_cl d
  rw [gb_cl c d] at h2
  exact ss_then h1 (ss_turn h2)
theorem co_fit15 {s : St} (c : Ck15 s) : (cl15 s).hp.Fit := by
  have hm := (co_ck c).may
  refine ⟨by have := may_len hm; omega, fun o ho => ?_⟩
  have := (kind_len (ob_kind (may_all hm _ ho))).1
  exact Nat.le_trans (by exact_mod_cast this) (by decide)
end Go.Proofs.YtnilempeldlieaaGreat
namespace Go.Proofs.YtnilempeldlieaaGreat
open Go.RowKit
set_option maxRecDepth 100000
theorem own_off15 {w : World} {base g : Nat} {t e : TypeId} {size n : Nat} {v : Value} {xs : List Value} {cs : Array Value} (h : w.ownsRow base e size v n xs) (hB : Lies w g t cs) (he : e ≠ t) (o : Nat) (u : Value) : (w.setCell ⟨g, o, none⟩ u).ownsRow base e size v n xs := ownsRow_setCell_other h (own_blk_ne h hB he) _
theorem OwnH.off15 {w : World} {base g : Nat} {t : TypeId} {A : Option Addr} {c : Nat} {ls : List LO} {cs : Array Value} (h : OwnH w base A c ls) (hB : Lies w g t cs) (h1 : 41 ≠ t) (h2 : 3 ≠ t) (o : Nat) (u : Value) : OwnH (w.setCell ⟨g, o, none⟩ u) base A c ls :=
  ⟨ownsRow_setCell_other h.row (own_blk_ne h.row hB h1) _, fun i l hl => ownsRow_setCell_other (h.ints i l hl) (own_blk_ne (h.ints i l hl) hB h2) _, h.apart⟩
/-- a world whose block g, a state's, has been stored into, from cell i on -/
def sets15 (w : World) (g : Nat) : Nat → List Value → World
  | _, [] => w
  | i, v :: l => sets15 (w.setCell ⟨g, i, none⟩ v) g (i + 1) l
theorem OwnH.sets15 {base g : Nat} {t : TypeId} {A : Option Addr} {c : Nat} {ls : List LO} (h1 : 41 ≠ t) (h2 : 3 ≠ t) : ∀ (l : List Value) (i : Nat) {w : World} {cs : Array Value}, OwnH w base A c ls → Lies w g t cs → OwnH (sets15 w g i l) base A c ls
  | [], _, _, _, h, _ => h
  | v :: l, i, _, _, h, hB => OwnH.sets15 h1 h2 l (i + 1) (h.off15 hB h1 h2 i v) (hB.set_ i v)
theorem own_sets15 {base g : Nat} {t e : TypeId} {size n : Nat} {v : Value} {xs : List Value} (h1 : e ≠ t) : ∀ (l : List Value) (i : Nat) {w : World} {cs : Array Value}, w.ownsRow base e size v n xs → Lies w g t cs → (sets15 w g i l).ownsRow base e size v n xs
  | [], _, _, _, h, _ => h
  | u :: l, i, _, _, h, hB => own_sets15 h1 l (i + 1) (own_off15 h hB h1 i u) (hB.set_ i u)
theorem Below.sets15 {n g : Nat} (hg : n ≤ g) : ∀ (l : List Value) (i : Nat) {w w' : World}, Below n w w' → Below n w (sets15 w' g i l)
  | [], _, _, _, h => h
  | v :: l, i, _, _, h => Below.sets15 hg l (i + 1) (h.setCell (p := ⟨g, i, none⟩) hg v)
theorem Lies.sets15_far {g k : Nat} {t : TypeId} {cs : Array Value} (hne : k ≠ g) : ∀ (l : List Value) (i : Nat) {w : World}, Lies w k t cs → Lies (sets15 w g i l) k t cs
  | [], _, _, h => h
  | v :: l, i, _, h => Lies.sets15_far hne l (i + 1) (h.far (p := ⟨g, i, none⟩) hne v)
theorem Lies.sets15_at {g : Nat} {t : TypeId} : ∀ (l : List Value) (i : Nat) {w : World} {cs : Array Value}, Lies w g t cs → Lies (sets15 w g i l) g t (((l.zipIdx i).foldl (fun a p => a.setIfInBounds p.2 p.1) cs))
  | [], _, _, _, h => h
  | v :: l, i, _, _, h => Lies.sets15_at l (i + 1) (h.set_ i v)
theorem Lies.s8_15 {w : World} {g : Nat} {t : TypeId} {a0 a1 a2 a3 a4 a5 a6 a7 : Value} (h : Lies w g t #[a0, a1, a2, a3, a4, a5, a6, a7]) (v0 v1 v2 v3 v4 v5 v6 v7 : Value) : Lies (sets15 w g 0 [v0, v1, v2, v3, v4, v5, v6, v7]) g t #[v0, v1, v2, v3, v4, v5, v6, v7] := by
  have := Lies.sets15_at [v0, v1, v2, v3, v4, v5, v6, v7] 0 h
  simpa only [List.zipIdx, List.foldl, List.setIfInBounds_toArray, List.set_cons_zero, List.set_cons_succ, Nat.zero_add, Nat.reduceAdd] using this
theorem Lies.s5_15 {w : World} {g : Nat} {t : TypeId} {a0 a1 a2 a3 a4 a5 a6 a7 : Value} (h : Lies w g t #[a0, a1, a2, a3, a4, a5, a6, a7]) (v0 v1 v2 v3 v4 : Value) : Lies (sets15 w g 0 [v0, v1, v2, v3, v4]) g t #[v0, v1, v2, v3, v4, a5, a6, a7] := by
  have := Lies.sets15_at [v0, v1, v2, v3, v4] 0 h
  simpa only [List.zipIdx, List.foldl, List.setIfInBounds_toArray, List.set_cons_zero, List.set_cons_succ, Nat.zero_add, Nat.reduceAdd] using this
theorem Lies.s3_15 {w : World} {g : Nat} {t : TypeId} {a0 a1 a2 a3 a4 a5 a6 a7 : Value} (h : Lies w g t #[a0, a1, a2, a3, a4, a5, a6, a7]) (v0 v1 v2 : Value) : Lies (sets15 w g 0 [v0, v1, v2]) g t #[v0, v1, v2, a3, a4, a5, a6, a7] := by
  have := Lies.sets15_at [v0, v1, v2] 0 h
  simpa only [List.zipIdx, List.foldl, List.setIfInBounds_toArray, List.set_cons_zero, List.set_cons_succ, Nat.zero_add, Nat.reduceAdd] using this
theorem Lies.s1at3_15 {w : World} {g : Nat} {t : TypeId} {a0 a1 a2 a3 a4 a5 a6 a7 : Value} (h : Lies w g t #[a0, a1, a2, a3, a4, a5, a6, a7]) (v0 : Value) : Lies (sets15 w g 3 [v0]) g t #[a0, a1, a2, v0, a4, a5, a6, a7] := by
  have := Lies.sets15_at [v0] 3 h
  simpa only [List.zipIdx, List.foldl, List.setIfInBounds_toArray, List.set_cons_zero, List.set_cons_succ, Nat.zero_add, Nat.reduceAdd] using this
theorem Lies.s1at4_15 {w : World} {g : Nat} {t : TypeId} {a0 a1 a2 a3 a4 a5 a6 a7 : Value} (h : Lies w g t #[a0, a1, a2, a3, a4, a5, a6, a7]) (v0 : Value) : Lies (sets15 w g 4 [v0]) g t #[a0, a1, a2, a3, v0, a5, a6, a7] := by
  have := Lies.sets15_at [v0] 4 h
  simpa only [List.zipIdx, List.foldl, List.setIfInBounds_toArray, List.set_cons_zero, List.set_cons_succ, Nat.zero_add, Nat.reduceAdd] using this
theorem Lies.s1at6_15 {w : World} {g : Nat} {t : TypeId} {a0 a1 a2 a3 a4 a5 a6 a7 : Value} (h : Lies w g t #[a0, a1, a2, a3, a4, a5, a6, a7]) (v0 : Value) : Lies (sets15 w g 6 [v0]) g t #[a0, a1, a2, a3, a4, a5, v0, a7] := by
  have := Lies.sets15_at [v0] 6 h
  simpa only [List.zipIdx, List.foldl, List.setIfInBounds_toArray, List.set_cons_zero, List.set_cons_succ, Nat.zero_add, Nat.reduceAdd] using this
theorem Lies.s1at7_15 {w : World} {g : Nat} {t : TypeId} {a0 a1 a2 a3 a4 a5 a6 a7 : Value} (h : Lies w g t #[a0, a1, a2, a3, a4, a5, a6, a7]) (v0 : Value) : Lies (sets15 w g 7 [v0]) g t #[a0, a1, a2, a3, a4, a5, a6, v0] := by
  have := Lies.sets15_at [v0] 7 h
  simpa only [List.zipIdx, List.foldl, List.setIfInBounds_toArray, List.set_cons_zero, List.set_cons_succ, Nat.zero_add, Nat.reduceAdd] using this
end Go.Proofs.YtnilempeldlieaaGreat
namespace Go.Proofs.YtnilempeldlieaaGreat
open Go.RowKit
set_option maxRecDepth 100000
def hO15 (i : Nat) : Ob := ⟨0, 0, [], ⟨#[]⟩, 0, i⟩
def hL15 (i : Nat) : LO := ⟨hO15 i, none, 0⟩
def tl15 (k : Nat) : List LO := (List.range k).map hL15
theorem tl15_len (k : Nat) : (tl15 k).length = k := by unfold tl15; rw [List.length_map, List.length_range]
theorem tl15_succ (k : Nat) : tl15 (k + 1) = tl15 k ++ [hL15 k] := by unfold tl15; rw [List.range_succ, List.map_append]; rfl
def T15 : St := ⟨⟨(List.range 14).map hO15, 20, 0⟩, 26, 0, 0, 0, 0⟩
theorem tl15_objs : (tl15 14).map (·.o) = T15.hp.objs := rfl
/-- objects appended to a row of the call's own, run -/
theorem run_app_row15 (w : World) (base b : Nat) (A : Option Addr) (c d n m : Nat) (ls new : List LO) (hown : w.ownsRow base 41 6 (.slice A n c) n (rowOf ls)) (hn : n = ls.length) (hm : m = new.length) (hl : n + m ≤ 1000)
    (hnew : Lies w b 41 (rowOf new).toArray) (hbase : base ≤ w.heap.size) :
    ∃ A' c' w', (Builtin.append_ #[22, 22] 22 #[.slice A n c, .slice (some ⟨b, 0, none⟩) m d]).run Tryz.prog w = .ok (.slice A' (n + m) c') w' ∧
      w'.ownsRow base 41 6 (.slice A' (n + m) c') (n + m) (rowOf (ls ++ new)) ∧ w.grownBy w' (Value.slice A n c).ownBlock := by
  obtain ⟨j0, hj, hy0, hy1, hy2⟩ := info_parts obj_info
  obtain ⟨v', w', h1, h2, h3, -⟩ := run_append_own (P := Tryz.prog) w base 22 22 41 j0 (.agg #[.int .i64 0, .int .i64 0, .slice none 0 0, .string ⟨#[]⟩, .int .i64 0, .int .i64 0]) 6 72 Tryz.underlying22 hj hy0 hy1 hy2 rfl (by decide) _ _ _ hown ⟨b, 0, none⟩ m d (rowOf new) (by rw [hm]; exact rowOf_length new) (by
      intro j u hu
      rw [Addr.add_lit, Nat.zero_add, hnew.cell j]
      simpa using hu) (rowOf_one new) (by unfold maxLen; omega) (by omega) hbase
  obtain ⟨A', c', rfl⟩ := own_form h2
  exact ⟨A', c', w', h1, by rw [rowOf_append]; exact h2, h3⟩
theorem grown_lies15 {w w' : World} {g : Nat} {t : TypeId} {cs : Array Value} {base n : Nat} {v : Value} {xs : List Value} (hg : w.grownBy w' v.ownBlock) (h : Lies w g t cs) (ho : w.ownsRow base 41 6 v n xs) (ht : 41 ≠ t) : Lies w' g t cs :=
  h.grown hg (fun e => own_blk_ne ho h ht e.symm)
theorem row_obs15 {w : World} {base : Nat} {A : Option Addr} {c : Nat} {ls : List LO} (h : w.ownsRow base 41 6 (.slice A ls.length c) ls.length (rowOf ls)) (hi : ∀ l ∈ ls, IntsR w l.S l.o.slots) (hn : ∀ l ∈ ls, l.S = none → l.c = 0)
    (hc : ∀ l ∈ ls, l.o.slots.length ≤ l.c) : ObsR w A (ls.map (·.o)) :=
  LaidR.obs ⟨fun hp => by
    obtain ⟨g, cg, hv, hg0, hg1⟩ := h.form hp
    simp only [Value.slice.injEq, true_and] at hv
    obtain ⟨rfl, rfl⟩ := hv
    refine ⟨g, 0, rfl, hg1, fun j u hu => ?_⟩
    have hj : j < ls.length * 6 := by
      have := (List.getElem?_eq_some_iff.1 hu).1
      rwa [rowOf_length] at this
    rw [Nat.zero_add]
    exact (h.cellAt j hj).trans hu, hi, hn⟩ hc
set_option maxHeartbeats 4000000 in
theorem twelve_any15 (w : World) : Calls Tryz.prog 25 #[] w fun e w' => ∃ A c, e = .returned (.agg #[.slice A T15.hp.objs.length c, .int .i64 T15.hp.cap, .int .i64 T15.hp.last, .int .i64 T15.proc, .int .i64 T15.ready, .int .i64 T15.halt, .int .i64 T15.steps, .int .i64 T15.used]) ∧ ObsR w' A T15.hp.objs ∧ Below w.heap.size w w' := by
  obtain ⟨w0, hw0⟩ : ∃ x, x = (w.alloc (.cells #[.slice none 0 0, .int .i64 0, .int .i64 0, .int .i64 0, .int .i64 0, .int .i64 0, .int .i64 0, .int .i64 0] 27)).alloc (.cells #[.slice none 0 0, .int .i64 20, .int .i64 0, .int .i64 26, .int .i64 0, .int .i64 0, .int .i64 0, .int .i64 0] 27) := ⟨_, rfl⟩
  have HB0 : Hid (Below w.heap.size w w0) := by show Below _ _ _; rw [hw0]; exact below_alloc2 w _ _
  have HK0 : Hid (Lies w0 w.heap.size 27 #[.slice none 0 0, .int .i64 0, .int .i64 0, .int .i64 0, .int .i64 0, .int .i64 0, .int .i64 0, .int .i64 0]) := by show Lies _ _ _ _; rw [hw0]; exact (Lies.new w _ _).alloc _
  have HL0 : Hid (Lies w0 (w.heap.size + 1) 27 #[.slice none 0 0, .int .i64 20, .int .i64 0, .int .i64 26, .int .i64 0, .int .i64 0, .int .i64 0, .int .i64 0]) := by
    show Lies _ _ _ _
    have := Lies.new (w.alloc (.cells #[.slice none 0 0, .int .i64 0, .int .i64 0, .int .i64 0, .int .i64 0, .int .i64 0, .int .i64 0, .int .i64 0] 27)) 27 #[.slice none 0 0, .int .i64 20, .int .i64 0, .int .i64 26, .int .i64 0, .int .i64 0, .int .i64 0, .int .i64 0]
    rw [hw0]
    simpa [Hid] using this
  have HO0 : Hid (w0.ownsRow w.heap.size 41 6 (.slice none 0 0) 0 (rowOf (tl15 0))) := World.ownsRow_nil _ _ _ _
  go_enter Tryz.func25, Tryz.ntmps25
  go_wp2_with fail
  rw [← hw0]
  clear hw0
  go_loopw [2] (fun i wr => ∃ (k : Nat) (A : Option Addr) (c : Nat), k ≤ 14 ∧ i = .int .i64 k ∧ Hid (Lies wr w.heap.size 27 #[.slice none 0 0, .int .i64 0, .int .i64 0, .int .i64 0, .int .i64 0, .int .i64 0, .int .i64 0, .int .i64 0]) ∧ Hid (Lies wr (w.heap.size + 1) 27 #[.slice A k c, .int .i64 20, .int .i64 0, .int .i64 26, .int .i64 0, .int .i64 0, .int .i64 0, .int .i64 0]) ∧ Hid (wr.ownsRow w.heap.size 41 6 (.slice A k c) k (rowOf (tl15 k))) ∧ Hid (Below w.heap.size w wr)) (fun i _ => 14 - (intOf i).toNat)
  case atStart => exact ⟨0, none, 0, by omega, rfl, HK0, HL0, HO0, HB0⟩
  case round =>
    rename World => w1
    obtain ⟨k, A, c, hk, rfl, HK, HL, HO, HB⟩ := hrel
    clear HK0 HL0 HO0 HB0
    have l0 := HL.out.cell 0
    have l1 := HL.out.cell 1
    have l2 := HL.out.cell 2
    have l3 := HL.out.cell 3
    have l4 := HL.out.cell 4
    have l5 := HL.out.cell 5
    have l6 := HL.out.cell 6
    have l7 := HL.out.cell 7
    have lf0 := HL.out.frozen 0
    have lf1 := HL.out.frozen 1
    have lf2 := HL.out.frozen 2
    have lf3 := HL.out.frozen 3
    have lf4 := HL.out.frozen 4
    have lf5 := HL.out.frozen 5
    have lf6 := HL.out.frozen 6
    have lf7 := HL.out.frozen 7
    simp only [List.getElem?_toArray, List.getElem?_cons_zero, List.getElem?_cons_succ] at l0 l1 l2 l3 l4 l5 l6 l7
    by_cases hlt : k < 14
    · have hal := below_alloc w1 (.cells #[.int .i64 0, .int .i64 0, .slice none 0 0, .string ⟨#[]⟩, .int .i64 0, .int .i64 k] 41)
      have ho1 := own_later HO.out hal
      obtain ⟨A2, c2, w2, hrun, hO2, hg2⟩ := run_app_row15 (w1.alloc (.cells #[.int .i64 0, .int .i64 0, .slice none 0 0, .string ⟨#[]⟩, .int .i64 0, .int .i64 k] 41)) w.heap.size w1.heap.size A c 1 k 1 (tl15 k) [hL15 k] ho1 (tl15_len k).symm rfl (by omega) (Lies.new w1 41 #[.int .i64 0, .int .i64 0, .slice none 0 0, .string ⟨#[]⟩, .int .i64 0, .int .i64 k]) (Nat.le_trans HB.out.size hal.size)
      rw [← tl15_succ] at hO2
      have HRUN := hid hrun
      have HO2 := hid hO2
      have HK2 := hid (grown_lies15 hg2 (HK.out.later hal) ho1 (by decide))
      have HL2 := hid (grown_lies15 hg2 (HL.out.later hal) ho1 (by decide))
      have HB2 : Hid (Below w.heap.size w w2) := (HB.out.trans (hal.mono HB.out.size)).grown hg2 (Nat.le_trans HB.out.size hal.size) (fun q hq => (ho1.lt q hq).1)
      have hk7 : (k : Int) < 14 := by omega
      clear hal ho1 hrun hO2 hg2
      have p0 := HL2.out.cell 0
      have pf0 := HL2.out.frozen 0
      simp only [List.getElem?_toArray, List.getElem?_cons_zero] at p0
      have HO3 := hid (own_off15 HO2.out HL2.out (by decide) 0 (.slice A2 (k + 1) c2))
      have HK3 := hid (HK2.out.far (p := ⟨w.heap.size + 1, 0, none⟩) (by simp) (.slice A2 (k + 1) c2))
      have HL3 := hid (HL2.out.set_ 0 (.slice A2 (k + 1) c2))
      have HB3 := hid (HB2.out.setCell (p := ⟨w.heap.size + 1, 0, none⟩) (by simp) (.slice A2 (k + 1) c2))
      go_wp2_with (at_builtin; refine wpList_app_run rfl (.tmp 11) (.tmp 14) 22 rfl _ _ HRUN.out ?_)
      go_roundw
      case rel => exact ⟨k + 1, A2, c2, by omega, by go_num, HK3, HL3, HO3, HB3⟩
      case measure => simp [intOf]; omega
    · obtain rfl : k = 14 := by omega
      have u0 := HK.out.cell 0
      have u1 := HK.out.cell 1
      have u2 := HK.out.cell 2
      have u3 := HK.out.cell 3
      have u4 := HK.out.cell 4
      have u5 := HK.out.cell 5
      have u6 := HK.out.cell 6
      have u7 := HK.out.cell 7
      have uf0 := HK.out.frozen 0
      have uf1 := HK.out.frozen 1
      have uf2 := HK.out.frozen 2
      have uf3 := HK.out.frozen 3
      have uf4 := HK.out.frozen 4
      have uf5 := HK.out.frozen 5
      have uf6 := HK.out.frozen 6
      have uf7 := HK.out.frozen 7
      simp only [List.getElem?_toArray, List.getElem?_cons_zero, List.getElem?_cons_succ] at u0 u1 u2 u3 u4 u5 u6 u7
      go_wp2_with fail
      have KF : Lies (sets15 w1 w.heap.size 0 [.slice A 14 c, .int .i64 20, .int .i64 0, .int .i64 26, .int .i64 0, .int .i64 0, .int .i64 0, .int .i64 0]) w.heap.size 27 #[.slice A 14 c, .int .i64 20, .int .i64 0, .int .i64 26, .int .i64 0, .int .i64 0, .int .i64 0, .int .i64 0] := HK.out.s8_15 (.slice A 14 c) (.int .i64 20) (.int .i64 0) (.int .i64 26) (.int .i64 0) (.int .i64 0) (.int .i64 0) (.int .i64 0)
      have r0_ := KF.cell 0
      have r1_ := KF.cell 1
      have r2_ := KF.cell 2
      have r3_ := KF.cell 3
      have r4_ := KF.cell 4
      have r5_ := KF.cell 5
      have r6_ := KF.cell 6
      have r7_ := KF.cell 7
      simp only [sets15, Nat.zero_add, Nat.reduceAdd, List.getElem?_toArray, List.getElem?_cons_zero, List.getElem?_cons_succ] at r0_ r1_ r2_ r3_ r4_ r5_ r6_ r7_
      refine bodyPost_ret (v := .agg #[.slice A 14 c, .int .i64 20, .int .i64 0, .int .i64 26, .int .i64 0, .int .i64 0, .int .i64 0, .int .i64 0]) (by simp [results, Tryz.results25, go_sem, r0_, r1_, r2_, r3_, r4_, r5_, r6_, r7_]) rfl ?_
      refine ⟨A, c, rfl, ?_, Below.sets15 (Nat.le_refl _) [.slice A 14 c, .int .i64 20, .int .i64 0, .int .i64 26, .int .i64 0, .int .i64 0, .int .i64 0, .int .i64 0] 0 HB.out⟩
      rw [← tl15_objs]
      have hrow : (sets15 w1 w.heap.size 0 [.slice A 14 c, .int .i64 20, .int .i64 0, .int .i64 26, .int .i64 0, .int .i64 0, .int .i64 0, .int .i64 0]).ownsRow w.heap.size 41 6 (.slice A 14 c) 14 (rowOf (tl15 14)) := own_sets15 (by decide) [.slice A 14 c, .int .i64 20, .int .i64 0, .int .i64 26, .int .i64 0, .int .i64 0, .int .i64 0, .int .i64 0] 0 HO.out HK.out
      refine row_obs15 (ls := tl15 14) hrow ?_ ?_ ?_
      · intro l hl
        obtain ⟨i, _, rfl⟩ := List.mem_map.1 hl
        exact fun h => absurd h (Nat.lt_irrefl 0)
      · intro l hl _
        obtain ⟨i, _, rfl⟩ := List.mem_map.1 hl
        rfl
      · intro l hl
        obtain ⟨i, _, rfl⟩ := List.mem_map.1 hl
        exact Nat.le_refl 0
end Go.Proofs.YtnilempeldlieaaGreat
