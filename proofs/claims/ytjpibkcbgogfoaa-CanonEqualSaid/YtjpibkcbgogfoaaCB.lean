/- What objects numbered as they are met come to: over plain heaps. -/
import Derived.Test.YtjpibkcbgogfoaaCA
namespace Go.Proofs.Ytjpibkcbgogfoaa
open Go.RowKit
theorem cn_small {h : Hp} {M : List Nat} {v : Int} (hr : refB h.objs.length v = false) : cnV h M v = v := by
  unfold cnV; rw [if_neg (by rw [hr]; decide)]
theorem cn_ref {h : Hp} {M : List Nat} {v : Int} (hr : refB h.objs.length v = true) : cnV h M v = 2 * (M.idxOf (atV v).toNat : Int) := by
  unfold cnV; rw [if_pos hr]
theorem cnH_no {h : Hp} {rs : List Int} (e : liE h rs ≠ 0) : cnH h rs = zeroH := by unfold cnH; rw [if_neg e]
theorem cnL_no {h : Hp} {rs : List Int} (e : liE h rs ≠ 0) : cnL h rs = [] := by unfold cnL; rw [if_neg e]
theorem cnL_yes {h : Hp} {rs : List Int} (e : liE h rs = 0) : cnL h rs = rs.map (cnV h (ordN h rs)) := by unfold cnL; rw [if_pos e]
theorem cn_objs {h : Hp} {rs : List Int} (e : liE h rs = 0) : (cnH h rs).objs = (ordN h rs).map fun q => cnO h (ordN h rs) (h.objs.getD q default) := by
  unfold cnH; rw [if_pos e]
theorem cn_caps {h : Hp} {rs : List Int} (e : liE h rs = 0) : (cnH h rs).cap = h.cap ∧ (cnH h rs).last = h.last := by
  unfold cnH; rw [if_pos e]; exact ⟨rfl, rfl⟩
theorem cn_len {h : Hp} {rs : List Int} (e : liE h rs = 0) : (cnH h rs).objs.length = (ordN h rs).length := by rw [cn_objs e, List.length_map]
theorem cn_get {h : Hp} {rs : List Int} (e : liE h rs = 0) {k i : Nat} (hk : (ordN h rs)[k]? = some i) : ∃ o, h.objs[i]? = some o ∧ (cnH h rs).objs[k]? = some (cnO h (ordN h rs) o) := by
  have hi := ordN_lt (List.mem_of_getElem? hk)
  refine ⟨_, List.getElem?_eq_getElem hi, ?_⟩
  rw [cn_objs e, List.getElem?_map, hk]
  simp only [Option.map_some]
  rw [List.getD_eq_getElem?_getD, List.getElem?_eq_getElem hi]; rfl
/-- v is a value of the heap, and what it is the ref of is met -/
def MeetV (h : Hp) (rs : List Int) (v : Int) : Prop := hasB h.objs.length v = true ∧ (refB h.objs.length v = true → (atV v).toNat ∈ ordN h rs)
theorem meet_root {h : Hp} {rs : List Int} (e : liE h rs = 0) {v : Int} (hv : v ∈ rs) : MeetV h rs v :=
  ⟨(li_ok e).2.1 v hv, fun hr => mem_ordN.2 (.root v hv hr)⟩
theorem meet_step {h : Hp} {rs : List Int} (e : liE h rs = 0) {i : Nat} (hi : i ∈ ordN h rs) {o : Ob} (ho : h.objs[i]? = some o) {v : Int} (hv : v ∈ o.cls :: o.slots) : MeetV h rs v := by
  obtain ⟨h1, h2⟩ := ob_vals (may_all (li_ok e).1 _ (List.mem_of_getElem? ho))
  refine ⟨?_, fun hr => mem_ordN.2 (.step i o v (mem_ordN.1 hi) ho hv hr)⟩
  rcases List.mem_cons.1 hv with g | g
  · rw [g]; exact ref_has h1
  · exact h2 v g
/-- a value that is met, and it by its new number -/
theorem cn_val {h : Hp} {rs : List Int} (e : liE h rs = 0) {v : Int} (hl : MeetV h rs v) :
    ValR h (cnH h rs) (fun i k => (ordN h rs)[k]? = some i) v (cnV h (ordN h rs) v) := by
  have h256 := may_len (li_ok e).1
  have hle := ordN_le h rs
  cases hr : refB h.objs.length v
  · have hn := has_not hl.1 hr
    rw [cn_small hr]
    refine .inl ⟨hr, ?_, rfl⟩
    cases hc : refB (cnH h rs).objs.length v
    · rfl
    · rw [nB_no hc] at hn; cases hn
  · have hi := hl.2 hr
    have hx : (ordN h rs).idxOf (atV v).toNat < (ordN h rs).length := List.idxOf_lt_length_iff.2 hi
    obtain ⟨r1, r2⟩ := ref_two (n := (cnH h rs).objs.length) (by rw [cn_len e]; omega) (by rw [cn_len e]; exact hx)
    rw [cn_ref hr]
    refine .inr ⟨hr, r1, ?_⟩
    show (ordN h rs)[(atV (2 * ((ordN h rs).idxOf (atV v).toNat : Int))).toNat]? = _
    rw [r2]
    show (ordN h rs)[(ordN h rs).idxOf (atV v).toNat]? = _
    rw [List.getElem?_eq_getElem hx, List.getElem_idxOf hx]
theorem all2_map {α β : Type} {R : α → β → Prop} {f : α → β} : ∀ {l : List α}, (∀ x ∈ l, R x (f x)) → All2 R l (l.map f)
  | [], _ => .nil
  | x :: l, h => .cons (h x (by simp)) (all2_map fun y hy => h y (List.mem_cons_of_mem _ hy))
/-- a heap and what is told of it are the same -/
theorem cn_pairs {h : Hp} {rs : List Int} (e : liE h rs = 0) : Pairs h rs (cnH h rs) (cnL h rs) (fun i k => (ordN h rs)[k]? = some i) where
  roots := by
    rw [cnL_yes e]
    exact all2_map fun v hv => cn_val e (meet_root e hv)
  obs := fun i k x y hr hx hy => by
    obtain ⟨o, h1, h2⟩ := cn_get e hr
    rw [hx] at h1; rw [hy] at h2
    obtain rfl := Option.some.inj h1
    obtain rfl := Option.some.inj h2
    have hi := List.mem_of_getElem? hr
    exact ⟨cn_val e (meet_step e hi hx (List.mem_cons_self ..)), rfl, all2_map fun v hv => cn_val e (meet_step e hi hx (List.mem_cons_of_mem _ hv)), rfl, rfl, rfl⟩
  fn := fun i k l hk hl => by
    obtain ⟨h1, h2⟩ := List.getElem?_eq_some_iff.1 hk
    obtain ⟨h3, h4⟩ := List.getElem?_eq_some_iff.1 hl
    rw [← idx_get (ordN_nodup h rs) h1, ← idx_get (ordN_nodup h rs) h3, h2, h4]
  inj := fun i j k hk hl => Option.some.inj (hk.symm.trans hl)
theorem kiB_cn (h : Hp) (M : List Nat) (o : Ob) : kiB (cnO h M o) = kiB o := by
  obtain ⟨cl, ki, sl, te, bi, ha⟩ := o
  cases sl with
  | nil => rfl
  | cons a l =>
    unfold kiB
    simp only [cnO, List.map_cons, List.length_cons, List.length_map]
    rfl
theorem cn_has {h : Hp} {rs : List Int} (e : liE h rs = 0) {v : Int} (hl : MeetV h rs v) : hasB (cnH h rs).objs.length (cnV h (ordN h rs) v) = true ∧ refB (cnH h rs).objs.length (cnV h (ordN h rs) v) = refB h.objs.length v := by
  rcases cn_val e hl with ⟨h1, h2, h3⟩ | ⟨h1, h2, -⟩
  · rw [h1, h2]
    refine ⟨?_, rfl⟩
    rw [← h3]
    unfold hasB; rw [has_not hl.1 h1]; rfl
  · rw [h1, h2]
    exact ⟨by unfold hasB; rw [h2, Bool.or_true], rfl⟩
theorem cn_ob {h : Hp} {rs : List Int} (e : liE h rs = 0) {i : Nat} (hi : i ∈ ordN h rs) {o : Ob} (ho : h.objs[i]? = some o) : obB (cnH h rs).objs.length (cnO h (ordN h rs) o) = true := by
  have hob := may_all (li_ok e).1 _ (List.mem_of_getElem? ho)
  obtain ⟨h1, h2⟩ := ob_vals hob
  unfold obB at hob ⊢
  simp only [Bool.and_eq_true] at hob ⊢
  obtain ⟨⟨⟨-, hh⟩, hk⟩, -⟩ := hob
  refine ⟨⟨⟨?_, hh⟩, ?_⟩, ?_⟩
  · have := (cn_has e (meet_step e hi ho (v := o.cls) (by simp))).2
    rw [h1] at this
    exact this
  · rw [kiB_cn]; exact hk
  · refine List.all_eq_true.2 fun y hy => ?_
    obtain ⟨v, hv, rfl⟩ := List.mem_map.1 hy
    exact (cn_has e (meet_step e hi ho (List.mem_cons_of_mem _ hv))).1
theorem cn_may {h : Hp} {rs : List Int} (e : liE h rs = 0) : mayB (cnH h rs) = true := by
  have hm := (li_ok e).1
  have hle := ordN_le h rs
  have hl := cn_len e
  have hall : ∀ o ∈ (cnH h rs).objs, obB (cnH h rs).objs.length o = true := fun o ho => by
    obtain ⟨k, hk, rfl⟩ := List.getElem_of_mem ho
    have hk' : k < (ordN h rs).length := by omega
    obtain ⟨o, h1, h2⟩ := cn_get e (List.getElem?_eq_getElem hk')
    rw [List.getElem?_eq_getElem hk] at h2
    rw [Option.some.inj h2]
    exact cn_ob e (List.getElem_mem hk') h1
  have hc := cn_caps e
  unfold mayB at hm ⊢
  rw [hc.1, hc.2]
  simp only [Bool.and_eq_true, decide_eq_true_eq] at hm ⊢
  exact ⟨⟨⟨hm.1.1.1, hm.1.1.2.1, by omega⟩, hm.1.2⟩, List.all_eq_true.2 hall⟩
theorem cn_liE {h : Hp} {rs : List Int} (e : liE h rs = 0) : liE (cnH h rs) (cnL h rs) = 0 := by
  unfold liE
  rw [if_pos (cn_may e), if_pos]
  refine List.all_eq_true.2 fun y hy => ?_
  rw [cnL_yes e] at hy
  obtain ⟨v, hv, rfl⟩ := List.mem_map.1 hy
  exact (cn_has e (meet_root e hv)).1
theorem cn_same {h : Hp} {rs : List Int} (e : liE h rs = 0) : SameP h rs (cnH h rs) (cnL h rs) := ⟨e, cn_liE e, _, cn_pairs e⟩
/-! ### Being the same -/
theorem ValR.turn {a b : Hp} {R : Nat → Nat → Prop} {v w : Int} (h : ValR a b R v w) : ValR b a (fun k i => R i k) w v := by
  rcases h with ⟨h1, h2, h3⟩ | ⟨h1, h2, h3⟩
  · exact .inl ⟨h2, h1, h3.symm⟩
  · exact .inr ⟨h2, h1, h3⟩
theorem ObR.turn {a b : Hp} {R : Nat → Nat → Prop} {x y : Ob} (h : ObR a b R x y) : ObR b a (fun k i => R i k) y x :=
  ⟨h.cls.turn, h.kind.symm, h.slots.turn.imp fun _ _ g => g.turn, h.text.symm, h.bits.symm, h.hash.symm⟩
theorem Pairs.turn {a b : Hp} {p q : List Int} {R : Nat → Nat → Prop} (P : Pairs a p b q R) : Pairs b q a p (fun k i => R i k) :=
  ⟨P.roots.turn.imp fun _ _ g => g.turn, fun i k x y hr hx hy => (P.obs k i y x hr hy hx).turn, fun i k l hk hl => P.inj k l i hk hl, fun i j k hi hj => P.fn k i j hi hj⟩
theorem SameP.turn {a b : Hp} {p q : List Int} (h : SameP a p b q) : SameP b q a p := by
  obtain ⟨ha, hb, R, P⟩ := h
  exact ⟨hb, ha, _, P.turn⟩
/-- one pairing, then another one -/
def thenR (b : Hp) (R S : Nat → Nat → Prop) (i l : Nat) : Prop := ∃ k, k < b.objs.length ∧ R i k ∧ S k l
theorem ValR.then {a b c : Hp} {R S : Nat → Nat → Prop} {u v w : Int} (h : ValR a b R u v) (g : ValR b c S v w) : ValR a c (thenR b R S) u w := by
  rcases h with ⟨h1, h2, h3⟩ | ⟨h1, h2, h3⟩ <;> rcases g with ⟨g1, g2, g3⟩ | ⟨g1, g2, g3⟩
  · exact .inl ⟨h1, g2, h3.trans g3⟩
  · rw [h2] at g1; cases g1
  · rw [h2] at g1; cases g1
  · exact .inr ⟨h1, g2, _, (refB_nat h2).1, h3, g3⟩
theorem All2.then {α β γ : Type} {R : α → β → Prop} {S : β → γ → Prop} {T : α → γ → Prop} (hT : ∀ x y z, R x y → S y z → T x z) {l : List α} {m : List β} (h : All2 R l m) : ∀ {n : List γ}, All2 S m n → All2 T l n := by
  induction h with
  | nil => intro n g; cases g; exact .nil
  | cons a _ ih => intro n g; cases g with | cons b g => exact .cons (hT _ _ _ a b) (ih g)
theorem ObR.then {a b c : Hp} {R S : Nat → Nat → Prop} {x y z : Ob} (h : ObR a b R x y) (g : ObR b c S y z) : ObR a c (thenR b R S) x z :=
  ⟨h.cls.then g.cls, h.kind.trans g.kind, h.slots.then (fun _ _ _ h g => h.then g) g.slots, h.text.trans g.text, h.bits.trans g.bits, h.hash.trans g.hash⟩
theorem Pairs.then {a b c : Hp} {p q r : List Int} {R S : Nat → Nat → Prop} (P : Pairs a p b q R) (Q : Pairs b q c r S) : Pairs a p c r (thenR b R S) where
  roots := P.roots.then (fun _ _ _ h g => h.then g) Q.roots
  obs := fun i l x z ⟨k, hk, h, g⟩ hx hz => (P.obs i k x _ h hx (List.getElem?_eq_getElem hk)).then (Q.obs k l _ z g (List.getElem?_eq_getElem hk) hz)
  fn := fun i k l ⟨j, _, h1, h2⟩ ⟨j', _, h3, h4⟩ => by
    obtain rfl := P.fn i j j' h1 h3
    exact Q.fn _ _ _ h2 h4
  inj := fun i j k ⟨l, _, h1, h2⟩ ⟨l', _, h3, h4⟩ => by
    obtain rfl := Q.inj l l' k h2 h4
    exact P.inj _ _ _ h1 h3
theorem SameP.then {a b c : Hp} {p q r : List Int} (h : SameP a p b q) (g : SameP b q c r) : SameP a p c r := by
  obtain ⟨h1, h2, R, P⟩ := h
  obtain ⟨g1, g2, S, Q⟩ := g
  exact ⟨h1, g2, _, P.then Q⟩
theorem SameP.self {h : Hp} {rs : List Int} (e : liE h rs = 0) : SameP h rs h rs := (cn_same e).then (cn_same e).turn
/-- Cap and Last do not count -/
theorem Pairs.objs {a b c : Hp} {p q : List Int} {R : Nat → Nat → Prop} (P : Pairs a p b q R) (e : b.objs = c.objs) : Pairs a p c q R := by
  have hv : ∀ v w, ValR a b R v w → ValR a c R v w := fun v w h => by unfold ValR at h ⊢; rwa [← e]
  exact ⟨P.roots.imp hv, fun i k x y hr hx hy => by
    have o := P.obs i k x y hr hx (by rw [e]; exact hy)
    exact ⟨hv _ _ o.cls, o.kind, o.slots.imp hv, o.text, o.bits, o.hash⟩, P.fn, P.inj⟩
/-- told the same they are the same -/
theorem told_same {a b : Hp} {p q : List Int} (ha : liE a p = 0) (hb : liE b q = 0) (e : (cnH a p).objs = (cnH b q).objs) (f : cnL a p = cnL b q) : SameP a p b q := by
  have P := (cn_pairs ha).objs e
  rw [f] at P
  exact ⟨ha, hb, _, P.then (cn_pairs hb).turn⟩
theorem same_iff {a b : Hp} {p q : List Int} : SameP a p b q ↔ liE a p = 0 ∧ liE b q = 0 ∧ (cnH a p).objs = (cnH b q).objs ∧ cnL a p = cnL b q :=
  ⟨fun h => ⟨h.1, h.2.1, same_told h⟩, fun ⟨h1, h2, h3, h4⟩ => told_same h1 h2 h3 h4⟩
/-- told of itself it is as it is -/
theorem cn_again {h : Hp} {rs : List Int} (e : liE h rs = 0) : cnH (cnH h rs) (cnL h rs) = cnH h rs ∧ cnL (cnH h rs) (cnL h rs) = cnL h rs := by
  obtain ⟨h1, h2⟩ := same_told (cn_same e)
  have c1 := cn_caps e
  have c2 := cn_caps (cn_liE e)
  refine ⟨?_, h2.symm⟩
  cases hc : cnH (cnH h rs) (cnL h rs) with
  | mk os cp la =>
    rw [hc] at h1 c2
    cases hd : cnH h rs with
    | mk os' cp' la' =>
      rw [hd] at h1 c2
      simp only at h1 c2
      rw [h1, c2.1, c2.2]
theorem all2_mem_right {α β : Type} {R : α → β → Prop} {l : List α} {m : List β} (h : All2 R l m) : ∀ x ∈ l, ∃ y ∈ m, R x y := by
  induction h with
  | nil => intro x hx; simp at hx
  | cons a _ ih =>
    intro x hx
    rcases List.mem_cons.1 hx with g | g
    · exact ⟨_, List.mem_cons_self .., g ▸ a⟩
    · obtain ⟨y, hy, r⟩ := ih x g
      exact ⟨y, List.mem_cons_of_mem _ hy, r⟩
/-- all that is told is reached -/
theorem cn_reach {h : Hp} {rs : List Int} (e : liE h rs = 0) {k : Nat} (hk : k < (cnH h rs).objs.length) : Reach (cnH h rs) (cnL h rs) k := by
  have O := ord_two (cn_pairs e)
  rw [cn_len e] at hk
  obtain ⟨l, hl, hr⟩ := all2_mem_right O _ (List.getElem_mem hk)
  have : l = k := (cn_pairs e).fn _ _ _ hr (List.getElem?_eq_getElem hk)
  rw [← this]
  exact mem_ordN.1 hl
theorem cn_liveN {h : Hp} {rs : List Int} (e : liE h rs = 0) : liveN (cnH h rs) (cnL h rs) = List.range (cnH h rs).objs.length := by
  unfold liveN
  refine List.filter_eq_self.2 fun k hk => ?_
  have := cn_reach e (List.mem_range.1 hk)
  simpa using this
theorem cn_live {h : Hp} {rs : List Int} (e : liE h rs = 0) : (liL (cnH h rs) (cnL h rs)).length = (cnH h rs).objs.length := by
  rw [(li_ok (cn_liE e)).2.2, liveL_length, cn_liveN e, List.length_range]
/-! ### Each root twice -/
theorem liE_twice (h : Hp) (rs : List Int) : liE h (rs ++ rs) = liE h rs := by
  unfold liE; rw [List.all_append, Bool.and_self]
theorem All2.half {α β : Type} {R : α → β → Prop} : ∀ {l : List α} {m : List β} {l' : List α} {m' : List β}, l.length = m.length → All2 R (l ++ l') (m ++ m') → All2 R l m
  | [], [], _, _, _, _ => .nil
  | [], _ :: _, _, _, h, _ => by simp at h
  | _ :: _, [], _, _, h, _ => by simp at h
  | _ :: l, _ :: m, _, _, h, g => by
    cases g with | cons a g => exact .cons a (All2.half (by simpa using h) g)
theorem same_twice {a b : Hp} {p q : List Int} : SameP a (p ++ p) b (q ++ q) ↔ SameP a p b q := by
  unfold SameP
  rw [liE_twice, liE_twice]
  constructor
  · rintro ⟨h1, h2, R, P⟩
    have := P.roots.len
    rw [List.length_append, List.length_append] at this
    exact ⟨h1, h2, R, P.roots.half (by omega), P.obs, P.fn, P.inj⟩
  · rintro ⟨h1, h2, R, P⟩
    exact ⟨h1, h2, R, P.roots.app P.roots, P.obs, P.fn, P.inj⟩
end Go.Proofs.Ytjpibkcbgogfoaa
