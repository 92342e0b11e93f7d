/- What objects numbered as they are met come to: over plain heaps. Roots, and objects that change places: over plain heaps. The document's small parts of stage 6 in the words of the plain heaps: a place in a list, values by a list, meeting step by step, lists with each number once, objects that change places one by one. -/
import Derived.Test.YtnilempeldlieaaGreatM06
namespace Go.Proofs.YtnilempeldlieaaGreat
open Go.RowKit
theorem cn_small {h : Hp} {M : List Nat} {v : Int} (hr : refB h.objs.length v = false) : cnV h M v = v := by
  unfold cnV; rw [if_neg (by rw [hr]; decide)]
theorem cn_ref {h : Hp} {M : List Nat} {v : Int} (hr : refB h.objs.length v = true) : cnV h M v = 2 * (M.idxOf (atV v).toNat : Int) := by
  unfold cnV; rw [if_pos hr]
theorem cnH_no {h : Hp} {rs : List Int} (e : liE h rs ≠ 0) : cnH h rs = zeroH := by unfold cnH; rw [if_neg e]
theorem cnL_no {h : Hp} {rs : List Int} (e : liE h rs ≠ 0) : cnL h rs = [] := by unfold cnL; rw [if_neg e]
theorem cnL_yes {h : Hp} {rs : List Int} (e : liE h rs = 0) : cnL h rs = rs.map (cnV h (ordN h rs)) := by unfold cnL; rw [if_pos e]
theorem cn_objs {h : Hp} {rs : List Int} (e : liE h rs = 0) : (cnH h rs).objs = (ordN h rs).map fun q => cnO h (ordN h rs) (h.objs.getD q default) := by
  unfold cnH; rw [if_pos e]
theorem cn_caps {h : Hp} {rs : List Int} (e : liE h rs = 0) : (cnH h rs).cap = h.cap ∧ (cnH h rs).last = h.last := by
  unfold cnH; rw [if_pos e]; exact ⟨rfl, rfl⟩
theorem cn_len {h : Hp} {rs : List Int} (e : liE h rs = 0) : (cnH h rs).objs.length = (ordN h rs).length := by rw [cn_objs e, List.length_map]
theorem cn_get {h : Hp} {rs : List Int} (e : liE h rs = 0) {k i : Nat} (hk : (ordN h rs)[k]? = some i) : ∃ o, h.objs[i]? = some o ∧ (cnH h rs).objs[k]? = some (cnO h (ordN h rs) o) := by
  have hi := ordN_lt (List.mem_of_getElem? hk)
  refine ⟨_, List.getElem?_eq_getElem hi, ?_⟩
  rw [cn_objs e, List.getElem?_map, hk]
  simp only [Option.map_some]
  rw [List.getD_eq_getElem?_getD, List.getElem?_eq_getElem hi]; rfl
/-- v is a value of the heap, and what it is the ref of is met -/
def MeetV (h : Hp) (rs : List Int) (v : Int) : Prop := hasB h.objs.length v = true ∧ (refB h.objs.length v = true → (atV v).toNat ∈ ordN h rs)
theorem meet_root {h : Hp} {rs : List Int} (e : liE h rs = 0) {v : Int} (hv : v ∈ rs) : MeetV h rs v :=
  ⟨(li_ok e).2.1 v hv, fun hr => mem_ordN.2 (.root v hv hr)⟩
theorem meet_step {h : Hp} {rs : List Int} (e : liE h rs = 0) {i : Nat} (hi : i ∈ ordN h rs) {o : Ob} (ho : h.objs[i]? = some o) {v : Int} (hv : v ∈ o.cls :: o.slots) : MeetV h rs v := by
  obtain ⟨h1, h2⟩ := ob_vals (may_all (li_ok e).1 _ (List.mem_of_getElem? ho))
  refine ⟨?_, fun hr => mem_ordN.2 (.step i o v (mem_ordN.1 hi) ho hv hr)⟩
  rcases List.mem_cons.1 hv with g | g
  · rw [g]; exact ref_has h1
  · exact h2 v g
/-- a value that is met, and it by its new number -/
theorem cn_val {h : Hp} {rs : List Int} (e : liE h rs = 0) {v : Int} (hl : MeetV h rs v) :
    ValR h (cnH h rs) (fun i k => (ordN h rs)[k]? = some i) v (cnV h (ordN h rs) v) := by
  have h256 := may_len (li_ok e).1
  have hle := ordN_le h rs
  cases hr : refB h.objs.length v
  · have hn := has_not hl.1 hr
    rw [cn_small hr]
    refine .inl ⟨hr, ?_, rfl⟩
    cases hc : refB (cnH h rs).objs.length v
    · rfl
    · rw [nB_no hc] at hn; cases hn
  · have hi := hl.2 hr
    have hx : (ordN h rs).idxOf (atV v).toNat < (ordN h rs).length := List.idxOf_lt_length_iff.2 hi
    obtain ⟨r1, r2⟩ := ref_two (n := (cnH h rs).objs.length) (by rw [cn_len e]; omega) (by rw [cn_len e]; exact hx)
    rw [cn_ref hr]
    refine .inr ⟨hr, r1, ?_⟩
    show (ordN h rs)[(atV (2 * ((ordN h rs).idxOf (atV v).toNat : Int))).toNat]? = _
    rw [r2]
    show (ordN h rs)[(ordN h rs).idxOf (atV v).toNat]? = _
    rw [List.getElem?_eq_getElem hx, List.getElem_idxOf hx]
theorem all2_map {α β : Type} {R : α → β → Prop} {f : α → β} : ∀ {l : List α}, (∀ x ∈ l, R x (f x)) → All2 R l (l.map f)
  | [], _ => .nil
  | x :: l, h => .cons (h x (by simp)) (all2_map fun y hy => h y (List.mem_cons_of_mem _ hy))
/-- a heap and what is told of it are the same -/
theorem cn_pairs {h : Hp} {rs : List Int} (e : liE h rs = 0) : Pairs h rs (cnH h rs) (cnL h rs) (fun i k => (ordN h rs)[k]? = some i) where
  roots := by
    rw [cnL_yes e]
    exact all2_map fun v hv => cn_val e (meet_root e hv)
  obs := fun i k x y hr hx hy => by
    obtain ⟨o, h1, h2⟩ := cn_get e hr
    rw [hx] at h1; rw [hy] at h2
    obtain rfl := Option.some.inj h1
    obtain rfl := Option.some.inj h2
    have hi := List.mem_of_getElem? hr
    exact ⟨cn_val e (meet_step e hi hx (List.mem_cons_self ..)), rfl, all2_map fun v hv => cn_val e (meet_step e hi hx (List.mem_cons_of_mem _ hv)), rfl, rfl, rfl⟩
  fn := fun i k l hk hl => by
    obtain ⟨h1, h2⟩ := List.getElem?_eq_some_iff.1 hk
    obtain ⟨h3, h4⟩ := List.getElem?_eq_some_iff.1 hl
    rw [← idx_get (ordN_nodup h rs) h1, ← idx_get (ordN_nodup h rs) h3, h2, h4]
  inj := fun i j k hk hl => Option.some.inj (hk.symm.trans hl)
theorem kiB_cn (h : Hp) (M : List Nat) (o : Ob) : kiB (cnO h M o) = kiB o := by
  obtain ⟨cl, ki, sl, te, bi, ha⟩ := o
  cases sl with
  | nil => rfl
  | cons a l =>
    unfold kiB
    simp only [cnO, List.map_cons, List.length_cons, List.length_map]
    rfl
theorem cn_has {h : Hp} {rs : List Int} (e : liE h rs = 0) {v : Int} (hl : MeetV h rs v) : hasB (cnH h rs).objs.length (cnV h (ordN h rs) v) = true ∧ refB (cnH h rs).objs.length (cnV h (ordN h rs) v) = refB h.objs.length v := by
  rcases cn_val e hl with ⟨h1, h2, h3⟩ | ⟨h1, h2, -⟩
  · rw [h1, h2]
    refine ⟨?_, rfl⟩
    rw [← h3]
    unfold hasB; rw [has_not hl.1 h1]; rfl
  · rw [h1, h2]
    exact ⟨by unfold hasB; rw [h2, Bool.or_true], rfl⟩
theorem cn_ob {h : Hp} {rs : List Int} (e : liE h rs = 0) {i : Nat} (hi : i ∈ ordN h rs) {o : Ob} (ho : h.objs[i]? = some o) : obB (cnH h rs).objs.length (cnO h (ordN h rs) o) = true := by
  have hob := may_all (li_ok e).1 _ (List.mem_of_getElem? ho)
  obtain ⟨h1, h2⟩ := ob_vals hob
  unfold obB at hob ⊢
  simp only [Bool.and_eq_true] at hob ⊢
  obtain ⟨⟨⟨-, hh⟩, hk⟩, -⟩ := hob
  refine ⟨⟨⟨?_, hh⟩, ?_⟩, ?_⟩
  · have := (cn_has e (meet_step e hi ho (v := o.cls) (by simp))).2
    rw [h1] at this
    exact this
  · rw [kiB_cn]; exact hk
  · refine List.all_eq_true.2 fun y hy => ?_
    obtain ⟨v, hv, rfl⟩ := List.mem_map.1 hy
    exact (cn_has e (meet_step e hi ho (List.mem_cons_of_mem _ hv))).1
theorem cn_may {h : Hp} {rs : List Int} (e : liE h rs = 0) : mayB (cnH h rs) = true := by
  have hm := (li_ok e).1
  have hle := ordN_le h rs
  have hl := cn_len e
  have hall : ∀ o ∈ (cnH h rs).objs, obB (cnH h rs).objs.length o = true := fun o ho => by
    obtain ⟨k, hk, rfl⟩ := List.getElem_of_mem ho
    have hk' : k < (ordN h rs).length := by omega
    obtain ⟨o, h1, h2⟩ := cn_get e (List.getElem?_eq_getElem hk')
    rw [List.getElem?_eq_getElem hk] at h2
    rw [Option.some.inj h2]
    exact cn_ob e (List.getElem_mem hk') h1
  have hc := cn_caps e
  unfold mayB at hm ⊢
  rw [hc.1, hc.2]
  simp only [Bool.and_eq_true, decide_eq_true_eq] at hm ⊢
  exact ⟨⟨⟨hm.1.1.1, hm.1.1.2.1, by omega⟩, hm.1.2⟩, List.all_eq_true.2 hall⟩
theorem cn_liE {h : Hp} {rs : List Int} (e : liE h rs = 0) : liE (cnH h rs) (cnL h rs) = 0 := by
  unfold liE
  rw [if_pos (cn_may e), if_pos]
  refine List.all_eq_true.2 fun y hy => ?_
  rw [cnL_yes e] at hy
  obtain ⟨v, hv, rfl⟩ := List.mem_map.1 hy
  exact (cn_has e (meet_root e hv)).1
theorem cn_same {h : Hp} {rs : List Int} (e : liE h rs = 0) : SameP h rs (cnH h rs) (cnL h rs) := ⟨e, cn_liE e, _, cn_pairs e⟩
/-! ### Being the same -/
theorem ValR.turn {a b : Hp} {R : Nat → Nat → Prop} {v w : Int} (h : ValR a b R v w) : ValR b a (fun k i => R i k) w v := by
  rcases h with ⟨h1, h2, h3⟩ | ⟨h1, h2, h3⟩
  · exact .inl ⟨h2, h1, h3.symm⟩
  · exact .inr ⟨h2, h1, h3⟩
theorem ObR.turn {a b : Hp} {R : Nat → Nat → Prop} {x y : Ob} (h : ObR a b R x y) : ObR b a (fun k i => R i k) y x :=
  ⟨h.cls.turn, h.kind.symm, h.slots.turn.imp fun _ _ g => g.turn, h.text.symm, h.bits.symm, h.hash.symm⟩
theorem Pairs.turn {a b : Hp} {p q : List Int} {R : Nat → Nat → Prop} (P : Pairs a p b q R) : Pairs b q a p (fun k i => R i k) :=
  ⟨P.roots.turn.imp fun _ _ g => g.turn, fun i k x y hr hx hy => (P.obs k i y x hr hy hx).turn, fun i k l hk hl => P.inj k l i hk hl, fun i j k hi hj => P.fn k i j hi hj⟩
theorem SameP.turn {a b : Hp} {p q : List Int} (h : SameP a p b q) : SameP b q a p := by
  obtain ⟨ha, hb, R, P⟩ := h
  exact ⟨hb, ha, _, P.turn⟩
/-- one pairing, then another one -/
def thenR (b : Hp) (R S : Nat → Nat → Prop) (i l : Nat) : Prop := ∃ k, k < b.objs.length ∧ R i k ∧ S k l
theorem ValR.then {a b c : Hp} {R S : Nat → Nat → Prop} {u v w : Int} (h : ValR a b R u v) (g : ValR b c S v w) : ValR a c (thenR b R S) u w := by
  rcases h with ⟨h1, h2, h3⟩ | ⟨h1, h2, h3⟩ <;> rcases g with ⟨g1, g2, g3⟩ | ⟨g1, g2, g3⟩
  · exact .inl ⟨h1, g2, h3.trans g3⟩
  · rw [h2] at g1; cases g1
  · rw [h2] at g1; cases g1
  · exact .inr ⟨h1, g2, _, (refB_nat h2).1, h3, g3⟩
theorem All2.then {α β γ : Type} {R : α → β → Prop} {S : β → γ → Prop} {T : α → γ → Prop} (hT : ∀ x y z, R x y → S y z → T x z) {l : List α} {m : List β} (h : All2 R l m) : ∀ {n : List γ}, All2 S m n → All2 T l n := by
  induction h with
  | nil => intro n g; cases g; exact .nil
  | cons a _ ih => intro n g; cases g with | cons b g => exact .cons (hT _ _ _ a b) (ih g)
theorem ObR.then {a b c : Hp} {R S : Nat → Nat → Prop} {x y z : Ob} (h : ObR a b R x y) (g : ObR b c S y z) : ObR a c (thenR b R S) x z :=
  ⟨h.cls.then g.cls, h.kind.trans g.kind, h.slots.then (fun _ _ _ h g => h.then g) g.slots, h.text.trans g.text, h.bits.trans g.bits, h.hash.trans g.hash⟩
theorem Pairs.then {a b c : Hp} {p q r : List Int} {R S : Nat → Nat → Prop} (P : Pairs a p b q R) (Q : Pairs b q c r S) : Pairs a p c r (thenR b R S) where
  roots := P.roots.then (fun _ _ _ h g => h.then g) Q.roots
  obs := fun i l x z ⟨k, hk, h, g⟩ hx hz => (P.obs i k x _ h hx (List.getElem?_eq_getElem hk)).then (Q.obs k l _ z g (List.getElem?_eq_getElem hk) hz)
  fn := fun i k l ⟨j, _, h1, h2⟩ ⟨j', _, h3, h4⟩ => by
    obtain rfl := P.fn i j j' h1 h3
    exact Q.fn _ _ _ h2 h4
  inj := fun i j k ⟨l, _, h1, h2⟩ ⟨l', _, h3, h4⟩ => by
    obtain rfl := Q.inj l l' k h2 h4
    exact P.inj _ _ _ h1 h3
theorem SameP.then {a b c : Hp} {p q r : List Int} (h : SameP a p b q) (g : SameP b q c r) : SameP a p c r := by
  obtain ⟨h1, h2, R, P⟩ := h
  obtain ⟨g1, g2, S, Q⟩ := g
  exact ⟨h1, g2, _, P.then Q⟩
theorem SameP.self {h : Hp} {rs : List Int} (e : liE h rs = 0) : SameP h rs h rs := (cn_same e).then (cn_same e).turn
/-- Cap and Last do not count -/
theorem Pairs.objs {a b c : Hp} {p q : List Int} {R : Nat → Nat → Prop} (P : Pairs a p b q R) (e : b.objs = c.objs) : Pairs a p c q R := by
  have hv : ∀ v w, ValR a b R v w → ValR a c R v w := fun v w h => by unfold ValR at h ⊢; rwa [← e]
  exact ⟨P.roots.imp hv, fun i k x y hr hx hy => by
    have o := P.obs i k x y hr hx (by rw [e]; exact hy)
    exact ⟨hv _ _ o.cls, o.kind, o.slots.imp hv, o.text, o.bits, o.hash⟩, P.fn, P.inj⟩
/-- told the same they are the same -/
theorem told_same {a b : Hp} {p q : List Int} (ha : liE a p = 0) (hb : liE b q = 0) (e : (cnH a p).objs = (cnH b q).objs) (f : cnL a p = cnL b q) : SameP a p b q := by
  have P := (cn_pairs ha).objs e
  rw [f] at P
  exact ⟨ha, hb, _, P.then (cn_pairs hb).turn⟩
theorem same_iff {a b : Hp} {p q : List Int} : SameP a p b q ↔ liE a p = 0 ∧ liE b q = 0 ∧ (cnH a p).objs = (cnH b q).objs ∧ cnL a p = cnL b q :=
  ⟨fun h => ⟨h.1, h.2.1, same_told h⟩, fun ⟨h1, h2, h3, h4⟩ => told_same h1 h2 h3 h4⟩
/-- told of itself it is as it is -/
theorem cn_again {h : Hp} {rs : List Int} (e : liE h rs = 0) : cnH (cnH h rs) (cnL h rs) = cnH h rs ∧ cnL (cnH h rs) (cnL h rs) = cnL h rs := by
  obtain ⟨h1, h2⟩ := same_told (cn_same e)
  have c1 := cn_caps e
  have c2 := cn_caps (cn_liE e)
  refine ⟨?_, h2.symm⟩
  cases hc : cnH (cnH h rs) (cnL h rs) with
  | mk os cp la =>
    rw [hc] at h1 c2
    cases hd : cnH h rs with
    | mk os' cp' la' =>
      rw [hd] at h1 c2
      simp only at h1 c2
      rw [h1, c2.1, c2.2]
theorem all2_mem_right {α β : Type} {R : α → β → Prop} {l : List α} {m : List β} (h : All2 R l m) : ∀ x ∈ l, ∃ y ∈ m, R x y := by
  induction h with
  | nil => intro x hx; simp at hx
  | cons a _ ih =>
    intro x hx
    rcases List.mem_cons.1 hx with g | g
    · exact ⟨_, List.mem_cons_self .., g ▸ a⟩
    · obtain ⟨y, hy, r⟩ := ih x g
      exact ⟨y, List.mem_cons_of_mem _ hy, r⟩
/-- all that is told is reached -/
theorem cn_reach {h : Hp} {rs : List Int} (e : liE h rs = 0) {k : Nat} (hk : k < (cnH h rs).objs.length) : Reach (cnH h rs) (cnL h rs) k := by
  have O := ord_two (cn_pairs e)
  rw [cn_len e] at hk
  obtain ⟨l, hl, hr⟩ := all2_mem_right O _ (List.getElem_mem hk)
  have : l = k := (cn_pairs e).fn _ _ _ hr (List.getElem?_eq_getElem hk)
  rw [← this]
  exact mem_ordN.1 hl
theorem cn_liveN {h : Hp} {rs : List Int} (e : liE h rs = 0) : liveN (cnH h rs) (cnL h rs) = List.range (cnH h rs).objs.length := by
  unfold liveN
  refine List.filter_eq_self.2 fun k hk => ?_
  have := cn_reach e (List.mem_range.1 hk)
  simpa using this
theorem cn_live {h : Hp} {rs : List Int} (e : liE h rs = 0) : (liL (cnH h rs) (cnL h rs)).length = (cnH h rs).objs.length := by
  rw [(li_ok (cn_liE e)).2.2, liveL_length, cn_liveN e, List.length_range]
/-! ### Each root twice -/
theorem liE_twice (h : Hp) (rs : List Int) : liE h (rs ++ rs) = liE h rs := by
  unfold liE; rw [List.all_append, Bool.and_self]
theorem All2.half {α β : Type} {R : α → β → Prop} : ∀ {l : List α} {m : List β} {l' : List α} {m' : List β}, l.length = m.length → All2 R (l ++ l') (m ++ m') → All2 R l m
  | [], [], _, _, _, _ => .nil
  | [], _ :: _, _, _, h, _ => by simp at h
  | _ :: _, [], _, _, h, _ => by simp at h
  | _ :: l, _ :: m, _, _, h, g => by
    cases g with | cons a g => exact .cons a (All2.half (by simpa using h) g)
theorem same_twice {a b : Hp} {p q : List Int} : SameP a (p ++ p) b (q ++ q) ↔ SameP a p b q := by
  unfold SameP
  rw [liE_twice, liE_twice]
  constructor
  · rintro ⟨h1, h2, R, P⟩
    have := P.roots.len
    rw [List.length_append, List.length_append] at this
    exact ⟨h1, h2, R, P.roots.half (by omega), P.obs, P.fn, P.inj⟩
  · rintro ⟨h1, h2, R, P⟩
    exact ⟨h1, h2, R, P.roots.app P.roots, P.obs, P.fn, P.inj⟩
end Go.Proofs.YtnilempeldlieaaGreat
namespace Go.Proofs.YtnilempeldlieaaGreat
open Go.RowKit
theorem bfs_nil (h : Hp) : ∀ (f i : Nat), bfs h f [] i = []
  | 0, _ => rfl
  | _ + 1, _ => rfl
theorem bfs_pre (h : Hp) : ∀ (f : Nat) (M : List Nat) (i : Nat), ∃ t, bfs h f M i = M ++ t
  | 0, M, _ => ⟨[], by rw [List.append_nil]; rfl⟩
  | f + 1, M, i => by
    unfold bfs
    split
    · rename_i q _
      obtain ⟨t, ht⟩ := meets_pre h (edges h q) M
      obtain ⟨u, hu⟩ := bfs_pre h f (meets h M (edges h q)) (i + 1)
      exact ⟨t ++ u, by rw [hu, ht, List.append_assoc]⟩
    · exact ⟨[], by rw [List.append_nil]⟩
theorem meets_none {h : Hp} : ∀ {rs : List Int} {M : List Nat}, (∀ v ∈ rs, refB h.objs.length v = false) → meets h M rs = M
  | [], _, _ => rfl
  | v :: rs, M, hv => by
    have h1 := hv v (by simp)
    rw [meets_cons, meets_none (fun u hu => hv u (List.mem_cons_of_mem _ hu))]
    unfold meetL; rw [if_neg (by rw [h1]; simp)]
theorem ordN_none {h : Hp} {rs : List Int} (hv : ∀ v ∈ rs, refB h.objs.length v = false) : ordN h rs = [] := by
  unfold ordN; rw [meets_none hv, bfs_nil]
theorem ordN_nil (h : Hp) : ordN h [] = [] := ordN_none fun v hv => by simp at hv
/-- the first root that is a ref is met first -/
theorem ordN_first {h : Hp} {l m : List Int} {v : Int} (hl : ∀ u ∈ l, refB h.objs.length u = false) (hv : refB h.objs.length v = true) : ∃ t, ordN h (l ++ v :: m) = (atV v).toNat :: t := by
  have h1 : meetL h [] v = [(atV v).toNat] := by unfold meetL; rw [if_pos ⟨hv, by simp⟩]; rfl
  obtain ⟨t, ht⟩ := meets_pre h m [(atV v).toNat]
  obtain ⟨u, hu⟩ := bfs_pre h h.objs.length (meets h [] (l ++ v :: m)) 0
  refine ⟨t ++ u, ?_⟩
  unfold ordN
  rw [hu, meets_append, meets_none hl, meets_cons, h1, ht]; rfl
theorem cn_first {h : Hp} {l m : List Int} {v : Int} (hl : ∀ u ∈ l, refB h.objs.length u = false) (hv : refB h.objs.length v = true) : cnV h (ordN h (l ++ v :: m)) v = 0 := by
  obtain ⟨t, ht⟩ := ordN_first hl hv (m := m)
  rw [cn_ref hv, ht]; simp
theorem cn_some {h : Hp} {rs : List Int} (e : liE h rs = 0) : 0 < (cnH h rs).objs.length ↔ ∃ v ∈ rs, refB h.objs.length v = true := by
  rw [cn_len e]
  constructor
  · intro g
    by_cases k : ∃ v ∈ rs, refB h.objs.length v = true
    · exact k
    · rw [ordN_none fun v hv => by
        cases hr : refB h.objs.length v
        · rfl
        · exact absurd ⟨v, hv, hr⟩ k] at g
      simp at g
  · rintro ⟨v, hv, hr⟩
    exact List.length_pos_of_mem (mem_ordN.2 (.root v hv hr))
/-! ### Objects that change places -/
/-- each number below n stands once -/
def PermL (pm : List Int) (n : Nat) : Prop := pm.length = n ∧ ∀ i, i < n → (i : Int) ∈ pm
def rnV (n : Nat) (pm : List Int) (v : Int) : Int := if refB n v = true then 2 * pm.getD (atV v).toNat 0 else v
def rnO (n : Nat) (pm : List Int) (o : Ob) : Ob := { o with cls := rnV n pm o.cls, slots := o.slots.map (rnV n pm) }
structure Ren (h g : Hp) (pm : List Int) : Prop where
  perm : PermL pm h.objs.length
  len : g.objs.length = h.objs.length
  cap : g.cap = h.cap
  last : g.last = h.last
  at_ : ∀ i x, h.objs[i]? = some x → g.objs[(pm.getD i 0).toNat]? = some (rnO h.objs.length pm x)
theorem count_one : ∀ (n : Nat) (pm : List Int), pm.length ≤ n → (∀ i, i < n → (i : Int) ∈ pm) → pm.Nodup ∧ ∀ v ∈ pm, 0 ≤ v ∧ v < n
  | 0, pm, hl, _ => by
    obtain rfl : pm = [] := List.eq_nil_of_length_eq_zero (by omega)
    exact ⟨List.nodup_nil, fun v hv => by simp at hv⟩
  | n + 1, pm, hl, hi => by
    have hm := hi n (by omega)
    have hlen : (pm.erase (n : Int)).length = pm.length - 1 := List.length_erase_of_mem hm
    have hp : 0 < pm.length := List.length_pos_of_mem hm
    have h1 : ∀ i, i < n → (i : Int) ∈ pm.erase (n : Int) := fun i hin => (List.mem_erase_of_ne (by omega)).2 (hi i (by omega))
    obtain ⟨a, b⟩ := count_one n (pm.erase (n : Int)) (by omega) h1
    have hperm := List.perm_cons_erase hm
    have hno : (n : Int) ∉ pm.erase (n : Int) := fun hx => by have := b _ hx; omega
    refine ⟨hperm.nodup_iff.2 (List.nodup_cons.2 ⟨hno, a⟩), fun v hv => ?_⟩
    rcases List.mem_cons.1 (hperm.mem_iff.1 hv) with g | g
    · omega
    · have := b v g; omega
section
variable {h g : Hp} {pm : List Int} {rs : List Int}
theorem Ren.ones (r : Ren h g pm) : pm.Nodup ∧ ∀ v ∈ pm, 0 ≤ v ∧ v < h.objs.length := count_one _ pm (Nat.le_of_eq r.perm.1) r.perm.2
theorem Ren.to_at (r : Ren h g pm) {i : Nat} (hi : i < h.objs.length) : ∃ k : Nat, k < h.objs.length ∧ pm[i]? = some (k : Int) ∧ pm.getD i 0 = k := by
  have hl : i < pm.length := by rw [r.perm.1]; exact hi
  have := r.ones.2 _ (List.getElem_mem hl)
  refine ⟨pm[i].toNat, by omega, ?_, ?_⟩
  · rw [List.getElem?_eq_getElem hl]; congr 1; omega
  · rw [List.getD_eq_getElem?_getD, List.getElem?_eq_getElem hl]; show pm[i] = _; omega
theorem Ren.val (r : Ren h g pm) (h256 : h.objs.length ≤ 256) {v : Int} (_hv : hasB h.objs.length v = true) : ValR h g (fun i k => pm[i]? = some (k : Int)) v (rnV h.objs.length pm v) := by
  cases hr : refB h.objs.length v
  · have : rnV h.objs.length pm v = v := by unfold rnV; rw [if_neg (by rw [hr]; decide)]
    rw [this]
    exact .inl ⟨hr, by rw [r.len]; exact hr, rfl⟩
  · obtain ⟨k, hk, h1, h2⟩ := r.to_at (refB_nat hr).1
    have : rnV h.objs.length pm v = 2 * (k : Int) := by unfold rnV; rw [if_pos hr, h2]
    rw [this]
    obtain ⟨r1, r2⟩ := ref_two (n := g.objs.length) (by rw [r.len]; exact h256) (by rw [r.len]; exact hk)
    refine .inr ⟨hr, r1, ?_⟩
    show pm[(atV v).toNat]? = _
    rw [r2]; exact h1
theorem Ren.has (r : Ren h g pm) (h256 : h.objs.length ≤ 256) {v : Int} (hv : hasB h.objs.length v = true) : hasB g.objs.length (rnV h.objs.length pm v) = true ∧ refB g.objs.length (rnV h.objs.length pm v) = refB h.objs.length v := by
  rcases r.val h256 hv with ⟨h1, h2, h3⟩ | ⟨h1, h2, -⟩
  · rw [h1, h2]
    refine ⟨?_, rfl⟩
    rw [← h3]
    unfold hasB; rw [has_not hv h1]; rfl
  · rw [h1, h2]
    exact ⟨by unfold hasB; rw [h2, Bool.or_true], rfl⟩
theorem kiB_rn (n : Nat) (pm : List Int) (o : Ob) : kiB (rnO n pm o) = kiB o := by
  obtain ⟨cl, ki, sl, te, bi, ha⟩ := o
  cases sl with
  | nil => rfl
  | cons a l =>
    unfold kiB
    simp only [rnO, List.map_cons, List.length_cons, List.length_map]
    rfl
theorem Ren.back (r : Ren h g pm) {k : Nat} {y : Ob} (hy : g.objs[k]? = some y) : ∃ (i : Nat) (x : Ob), h.objs[i]? = some x ∧ y = rnO h.objs.length pm x := by
  have hk : k < g.objs.length := (List.getElem?_eq_some_iff.1 hy).1
  obtain ⟨i, hi, hx⟩ := List.getElem_of_mem (r.perm.2 k (by rw [← r.len]; exact hk))
  have hin : i < h.objs.length := by rw [← r.perm.1]; exact hi
  refine ⟨i, _, List.getElem?_eq_getElem hin, ?_⟩
  have := r.at_ i _ (List.getElem?_eq_getElem hin)
  have hd : pm.getD i 0 = (k : Int) := by rw [List.getD_eq_getElem?_getD, List.getElem?_eq_getElem hi]; exact hx
  rw [hd] at this
  exact Option.some.inj (hy.symm.trans this)
theorem Ren.may (r : Ren h g pm) (hm : mayB h = true) : mayB g = true := by
  have h256 := may_len hm
  have hall : ∀ o ∈ g.objs, obB g.objs.length o = true := fun o ho => by
    obtain ⟨k, hk⟩ := List.mem_iff_getElem?.1 ho
    obtain ⟨i, x, hx, rfl⟩ := r.back hk
    have hob := may_all hm _ (List.mem_of_getElem? hx)
    obtain ⟨h1, h2⟩ := ob_vals hob
    unfold obB at hob ⊢
    simp only [Bool.and_eq_true] at hob ⊢
    obtain ⟨⟨⟨-, hh⟩, hk⟩, -⟩ := hob
    refine ⟨⟨⟨?_, hh⟩, ?_⟩, ?_⟩
    · have := (r.has h256 (ref_has h1)).2
      rw [h1] at this
      exact this
    · rw [kiB_rn]; exact hk
    · refine List.all_eq_true.2 fun y hy => ?_
      obtain ⟨v, hv, rfl⟩ := List.mem_map.1 hy
      exact (r.has h256 (h2 v hv)).1
  unfold mayB at hm ⊢
  rw [r.cap, r.last, r.len]
  rw [r.len] at hall
  simp only [Bool.and_eq_true] at hm ⊢
  exact ⟨hm.1, List.all_eq_true.2 hall⟩
theorem Ren.liE (r : Ren h g pm) (e : liE h rs = 0) : Go.Proofs.YtnilempeldlieaaGreat.liE g (rs.map (rnV h.objs.length pm)) = 0 := by
  obtain ⟨hm, hv, -⟩ := li_ok e
  unfold Go.Proofs.YtnilempeldlieaaGreat.liE
  rw [if_pos (r.may hm), if_pos]
  refine List.all_eq_true.2 fun y hy => ?_
  obtain ⟨v, hv', rfl⟩ := List.mem_map.1 hy
  exact (r.has (may_len hm) (hv v hv')).1
/-- a heap whose objects have changed places is the same -/
theorem Ren.same (r : Ren h g pm) (e : Go.Proofs.YtnilempeldlieaaGreat.liE h rs = 0) : SameP h rs g (rs.map (rnV h.objs.length pm)) := by
  obtain ⟨hm, hv, -⟩ := li_ok e
  have h256 := may_len hm
  refine ⟨e, r.liE e, fun i k => pm[i]? = some (k : Int), all2_map fun v hv' => r.val h256 (hv v hv'), fun i k x y hr hx hy => ?_, fun i k l hk hl => ?_, fun i j k hi hj => ?_⟩
  · have h1 := r.at_ i x hx
    have hd : pm.getD i 0 = (k : Int) := by rw [List.getD_eq_getElem?_getD, hr]; rfl
    rw [hd] at h1
    obtain rfl : y = rnO h.objs.length pm x := Option.some.inj (hy.symm.trans h1)
    obtain ⟨o1, o2⟩ := ob_vals (may_all hm _ (List.mem_of_getElem? hx))
    exact ⟨r.val h256 (ref_has o1), rfl, all2_map fun v hv' => r.val h256 (o2 v hv'), rfl, rfl, rfl⟩
  · have := Option.some.inj (hk.symm.trans hl); omega
  · obtain ⟨h1, h2⟩ := List.getElem?_eq_some_iff.1 hi
    obtain ⟨h3, h4⟩ := List.getElem?_eq_some_iff.1 hj
    rw [← r.ones.1.idxOf_getElem i h1, ← r.ones.1.idxOf_getElem j h3, h2, h4]
theorem Ren.told (r : Ren h g pm) (e : Go.Proofs.YtnilempeldlieaaGreat.liE h rs = 0) : cnH g (rs.map (rnV h.objs.length pm)) = cnH h rs ∧ cnL g (rs.map (rnV h.objs.length pm)) = cnL h rs := by
  obtain ⟨h1, h2⟩ := same_told (r.same e)
  have c1 := cn_caps e
  have c2 := cn_caps (r.liE e)
  rw [r.cap, r.last] at c2
  refine ⟨?_, h2.symm⟩
  cases hc : cnH g (rs.map (rnV h.objs.length pm)) with
  | mk os cp la =>
    rw [hc] at h1 c2
    cases hd : cnH h rs with
    | mk os' cp' la' =>
      rw [hd] at h1 c1
      simp only at h1 c1 c2
      rw [h1, c1.1, c1.2, c2.1, c2.2]
end
end Go.Proofs.YtnilempeldlieaaGreat
namespace Go.Proofs.YtnilempeldlieaaGreat
open Go.RowKit
/-- numbers as ints -/
def iL (M : List Nat) : List Int := M.map fun (x : Nat) => (x : Int)
def plZ (L : List Int) (x : Int) : Int := if x ∈ L then (L.idxOf x : Int) else -1
theorem plZ_no {L : List Int} {x : Int} (h : x ∉ L) : plZ L x = -1 := by unfold plZ; rw [if_neg h]
theorem plZ_at {L : List Int} {x : Int} {k : Nat} (hk : k < L.length) (hn : x ∉ L.take k) (he : L[k] = x) : plZ L x = k := by
  have hm : x ∈ L := he ▸ List.getElem_mem hk
  have h1 : L.take k ++ L.drop k = L := List.take_append_drop k L
  have h2 : L.idxOf x = k := by
    rw [← h1, List.idxOf_append, if_neg hn, List.drop_eq_getElem_cons hk, he, List.idxOf_cons_self, List.length_take]
    omega
  unfold plZ; rw [if_pos hm, h2]
theorem plZ_range (L : List Int) (x : Int) : -1 ≤ plZ L x ∧ plZ L x < (L.length : Int) ∨ plZ L x = -1 := by
  unfold plZ
  split
  · rename_i h
    have := List.idxOf_lt_length_iff.2 h
    omega
  · exact .inr rfl
/-- v by a list of numbers -/
def tuV (n : Nat) (L : List Int) (v : Int) : Int := if refB n v = true then 2 * plZ L (atV v) else v
theorem idx_cast (M : List Nat) (i : Nat) : plZ (iL M) i = if i ∈ M then (M.idxOf i : Int) else -1 := by
  unfold plZ
  have h1 : ((i : Int) ∈ iL M) ↔ i ∈ M := by
    simp only [iL, List.mem_map]
    constructor
    · rintro ⟨j, hj, e⟩
      obtain rfl : j = i := by omega
      exact hj
    · exact fun h => ⟨i, h, rfl⟩
  have h2 : ∀ M : List Nat, (iL M).idxOf (i : Int) = M.idxOf i := by
    intro M
    induction M with
    | nil => rfl
    | cons a M ih =>
      show ((a : Int) :: iL M).idxOf (i : Int) = _
      rw [List.idxOf_cons, List.idxOf_cons, ih]
      have : ((a : Int) == (i : Int)) = (a == i) := by
        by_cases g : a = i
        · subst g; simp
        · have : ¬ (a : Int) = (i : Int) := by omega
          rw [beq_eq_false_iff_ne.2 g, beq_eq_false_iff_ne.2 this]
      rw [this]
  by_cases g : i ∈ M
  · rw [if_pos g, if_pos (h1.2 g), h2]
  · rw [if_neg g, if_neg fun h => g (h1.1 h)]
/-- what is met has its number -/
theorem tu_cn {h : Hp} {M : List Nat} {v : Int} (hv : refB h.objs.length v = true → (atV v).toNat ∈ M) : tuV h.objs.length (iL M) v = cnV h M v := by
  unfold tuV cnV
  cases hr : refB h.objs.length v
  · rfl
  · rw [if_pos rfl, if_pos rfl]
    conv => lhs; rw [← (refB_nat hr).2]
    rw [idx_cast, if_pos (hv hr)]
def takeG (f : Int → Int) (l : List Int) (k : Nat) : List Int := (l.take k).map f
theorem takeG_all (f : Int → Int) (l : List Int) : takeG f l l.length = l.map f := by unfold takeG; rw [List.take_length]
theorem takeG_map (f : Int → Int) (l : List Int) (k : Nat) (hk : k < l.length) : takeG f l (k + 1) = takeG f l k ++ [f l[k]] := by
  unfold takeG
  rw [List.take_succ_eq_append_getElem hk, List.map_append]; rfl
theorem cast_len (M : List Nat) : (iL M).length = M.length := List.length_map ..
/-- not met yet -/
theorem pl_new {M : List Nat} {n : Nat} {v : Int} (hr : refB n v = true) : plZ (iL M) (atV v) < 0 ↔ (atV v).toNat ∉ M := by
  have e : plZ (iL M) (atV v) = if (atV v).toNat ∈ M then (M.idxOf (atV v).toNat : Int) else -1 := by
    conv => lhs; rw [← (refB_nat hr).2]
    exact idx_cast M _
  rw [e]
  constructor
  · intro g hm
    rw [if_pos hm] at g; omega
  · intro g
    rw [if_neg g]; decide
theorem meetL_new {h : Hp} {M : List Nat} {v : Int} (hr : refB h.objs.length v = true) (hn : (atV v).toNat ∉ M) : iL (meetL h M v) = iL M ++ [atV v] := by
  unfold meetL
  rw [if_pos ⟨hr, hn⟩]
  unfold iL
  rw [List.map_append]
  show _ ++ [((atV v).toNat : Int)] = _
  rw [(refB_nat hr).2]
theorem meetL_old {h : Hp} {M : List Nat} {v : Int} (hm : refB h.objs.length v = true → (atV v).toNat ∈ M) : meetL h M v = M := by
  unfold meetL
  rw [if_neg fun c => c.2 (hm c.1)]
theorem meets_take {h : Hp} {M : List Nat} {vs : List Int} {k : Nat} (hk : k < vs.length) : meets h M (vs.take (k + 1)) = meetL h (meets h M (vs.take k)) vs[k] := by
  rw [List.take_succ_eq_append_getElem hk, meets_append]; rfl
/-- one more of those met is looked through -/
theorem bfs_step {h : Hp} {M : List Nat} {k : Nat} (hk : k < M.length) (hm : M.length ≤ h.objs.length) : bfs h (h.objs.length - k) M k = bfs h (h.objs.length - (k + 1)) (meets h M (edges h M[k])) (k + 1) := by
  obtain ⟨f, hf⟩ : ∃ f, h.objs.length - k = f + 1 := ⟨h.objs.length - k - 1, by omega⟩
  have : h.objs.length - (k + 1) = f := by omega
  rw [hf, this]
  conv => lhs; unfold bfs
  rw [List.getElem?_eq_getElem hk]
theorem bfs_end {h : Hp} {M : List Nat} (f : Nat) : bfs h f M M.length = M := by
  cases f with
  | zero => rfl
  | succ f => unfold bfs; rw [List.getElem?_eq_none (Nat.le_refl _)]
/-- what holds while those met are looked through -/
structure Goes6 (h : Hp) (rs : List Int) (M : List Nat) (k : Nat) : Prop where
  met : Met h rs M
  le : k ≤ M.length
  all : bfs h (h.objs.length - k) M k = ordN h rs
theorem Goes6.start (h : Hp) (rs : List Int) : Goes6 h rs (meets h [] rs) 0 := ⟨start_met h rs, Nat.zero_le _, rfl⟩
theorem Goes6.step {h : Hp} {rs : List Int} {M : List Nat} {k : Nat} (g : Goes6 h rs M k) (hk : k < M.length) : Goes6 h rs (meets h M (edges h M[k])) (k + 1) := by
  have hq := g.met.lt (List.getElem_mem hk)
  have ho := List.getElem?_eq_getElem hq
  have he : edges h M[k] = h.objs[M[k]].cls :: h.objs[M[k]].slots := by unfold edges; rw [ho]
  obtain ⟨t, ht⟩ := meets_pre h (edges h M[k]) M
  refine ⟨meets_met _ g.met fun v hv hr => .step _ _ v (g.met.sound _ (List.getElem_mem hk)) ho (by rw [← he]; exact hv) hr, by rw [ht, List.length_append]; omega, ?_⟩
  rw [← bfs_step hk g.met.len, g.all]
theorem Goes6.done {h : Hp} {rs : List Int} {M : List Nat} {k : Nat} (g : Goes6 h rs M k) (hk : M.length ≤ k) : M = ordN h rs := by
  obtain rfl : k = M.length := Nat.le_antisymm g.le hk
  rw [← g.all, bfs_end]
/-- of those met the first k, as they are told -/
def cnK (h : Hp) (M : List Nat) (k : Nat) : List Ob := (M.take k).map fun q => cnO h M (h.objs.getD q default)
theorem cnK_len {h : Hp} {M : List Nat} {k : Nat} (hk : k ≤ M.length) : (cnK h M k).length = k := by unfold cnK; rw [List.length_map, List.length_take]; omega
theorem cnK_succ {h : Hp} {M : List Nat} {k : Nat} (hk : k < M.length) : cnK h M (k + 1) = cnK h M k ++ [cnO h M (h.objs.getD M[k] default)] := by
  unfold cnK; rw [List.take_succ_eq_append_getElem hk, List.map_append]; rfl
theorem cnK_all {h : Hp} {rs : List Int} (e : liE h rs = 0) : cnK h (ordN h rs) (ordN h rs).length = (cnH h rs).objs := by
  unfold cnK; rw [List.take_length, cn_objs e]
theorem cnK_met {h : Hp} {rs : List Int} (e : liE h rs = 0) {k : Nat} (hk : k < (ordN h rs).length) : ∃ o, h.objs[(ordN h rs)[k]]? = some o ∧
    (∀ v ∈ o.cls :: o.slots, tuV h.objs.length (iL (ordN h rs)) v = cnV h (ordN h rs) v) ∧ cnK h (ordN h rs) (k + 1) = cnK h (ordN h rs) k ++ [cnO h (ordN h rs) o] := by
  have hq := ordN_lt (List.getElem_mem hk)
  have ho := List.getElem?_eq_getElem hq
  refine ⟨_, ho, fun v hv => tu_cn (meet_step e (List.getElem_mem hk) ho hv).2, ?_⟩
  rw [cnK_succ hk, List.getD_eq_getElem?_getD, ho]; rfl
theorem tu_roots {h : Hp} {rs : List Int} (e : liE h rs = 0) : rs.map (tuV h.objs.length (iL (ordN h rs))) = cnL h rs := by
  rw [cnL_yes e]
  exact List.map_congr_left fun v hv => tu_cn (meet_root e hv).2
/-! ### Each number once -/
def pmB (L : List Int) (n : Nat) : Bool := decide (L.length = n) && (List.range n).all fun i => decide ((i : Int) ∈ L)
theorem pmB_iff {L : List Int} {n : Nat} : pmB L n = true ↔ PermL L n := by
  unfold pmB PermL
  simp
theorem pl_in {L : List Int} {x : Int} : plZ L x < 0 ↔ x ∉ L := by
  unfold plZ
  split
  · rename_i h; constructor
    · intro g; omega
    · intro g; exact absurd h g
  · rename_i h; exact ⟨fun _ => h, fun _ => by decide⟩
/-! ### Objects that change places, one by one -/
def rnK (h : Hp) (pm : List Int) : Nat → List Ob
  | 0 => List.replicate h.objs.length default
  | k + 1 => (rnK h pm k).set (pm.getD k 0).toNat (rnO h.objs.length pm (h.objs.getD k default))
theorem rnK_len (h : Hp) (pm : List Int) : ∀ k, (rnK h pm k).length = h.objs.length
  | 0 => List.length_replicate ..
  | k + 1 => by unfold rnK; rw [List.length_set, rnK_len h pm k]
theorem perm_at {pm : List Int} {n : Nat} (P : PermL pm n) {i : Nat} (hi : i < n) : ∃ k : Nat, k < n ∧ pm.getD i 0 = k ∧ pm[i]? = some (k : Int) := by
  have hl : i < pm.length := by rw [P.1]; exact hi
  have := (count_one n pm (Nat.le_of_eq P.1) P.2).2 _ (List.getElem_mem hl)
  refine ⟨pm[i].toNat, by omega, ?_, ?_⟩
  · rw [List.getD_eq_getElem?_getD, List.getElem?_eq_getElem hl]; show pm[i] = _; omega
  · rw [List.getElem?_eq_getElem hl]; congr 1; omega
theorem perm_ne {pm : List Int} {n : Nat} (P : PermL pm n) {i j : Nat} (hi : i < n) (hj : j < n) (e : (pm.getD i 0).toNat = (pm.getD j 0).toNat) : i = j := by
  obtain ⟨k, _, h1, h2⟩ := perm_at P hi
  obtain ⟨l, _, h3, h4⟩ := perm_at P hj
  rw [h1, h3] at e
  have hkl : k = l := by simpa using e
  subst hkl
  obtain ⟨a1, a2⟩ := List.getElem?_eq_some_iff.1 h2
  obtain ⟨b1, b2⟩ := List.getElem?_eq_some_iff.1 h4
  have N := (count_one n pm (Nat.le_of_eq P.1) P.2).1
  rw [← N.idxOf_getElem i a1, ← N.idxOf_getElem j b1, a2, b2]
theorem rnK_at {h : Hp} {pm : List Int} (P : PermL pm h.objs.length) : ∀ {k : Nat}, k ≤ h.objs.length → ∀ (i : Nat) (x : Ob), i < k → h.objs[i]? = some x → (rnK h pm k)[(pm.getD i 0).toNat]? = some (rnO h.objs.length pm x)
  | 0, _, i, x, hi, _ => absurd hi (Nat.not_lt_zero i)
  | k + 1, hk, i, x, hi, hx => by
    unfold rnK
    rw [List.getElem?_set]
    by_cases g : i = k
    · subst g
      obtain ⟨l, hl, h1, -⟩ := perm_at P (i := i) (by omega)
      have : (pm.getD i 0).toNat < (rnK h pm i).length := by rw [rnK_len, h1]; exact hl
      rw [if_pos rfl, if_pos this, List.getD_eq_getElem?_getD (l := h.objs), hx]; rfl
    · rw [if_neg fun e => g (perm_ne P (by omega) (by omega) e).symm]
      exact rnK_at P (by omega) i x (by omega) hx
theorem rn_ren {h : Hp} {pm : List Int} (P : PermL pm h.objs.length) : Ren h ⟨rnK h pm h.objs.length, h.cap, h.last⟩ pm :=
  ⟨P, rnK_len h pm _, rfl, rfl, fun i x hx => rnK_at P (Nat.le_refl _) i x (List.getElem?_eq_some_iff.1 hx).1 hx⟩
end Go.Proofs.YtnilempeldlieaaGreat
