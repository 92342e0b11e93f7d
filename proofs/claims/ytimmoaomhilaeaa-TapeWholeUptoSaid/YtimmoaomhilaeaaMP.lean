/- What is reached in a heap from roots: over plain heaps. What mark.Live answers, said over plain heaps; R.Ints and R4.In walked. -/
import Derived.Test.YtimmoaomhilaeaaM
import Derived.Test.YtimmoaomhilaeaaE
import Derived.Test.YtimmoaomhilaeaaS
namespace Go.Proofs.Ytimmoaomhilaeaa
open Go.RowKit
/-- an object's number is reached from the roots -/
inductive Reach (h : Hp) (rs : List Int) : Nat → Prop
  | root (v : Int) : v ∈ rs → refB h.objs.length v = true → Reach h rs (atV v).toNat
  | step (i : Nat) (o : Ob) (v : Int) : Reach h rs i → h.objs[i]? = some o → v ∈ o.cls :: o.slots → refB h.objs.length v = true → Reach h rs (atV v).toNat
theorem refB_nat {n : Nat} {v : Int} (h : refB n v = true) : (atV v).toNat < n ∧ ((atV v).toNat : Int) = atV v := by
  have := refB_no h; omega
theorem Reach.lt {h : Hp} {rs : List Int} {i : Nat} (r : Reach h rs i) : i < h.objs.length := by
  cases r with
  | root v _ hv => exact (refB_nat hv).1
  | step i o v _ _ _ hv => exact (refB_nat hv).1
theorem Reach.least {h : Hp} {rs : List Int} (S : Nat → Prop) (h0 : ∀ v ∈ rs, refB h.objs.length v = true → S (atV v).toNat)
    (h1 : ∀ i o v, S i → h.objs[i]? = some o → v ∈ o.cls :: o.slots → refB h.objs.length v = true → S (atV v).toNat) {i : Nat} (r : Reach h rs i) : S i := by
  induction r with
  | root v hv hr => exact h0 v hv hr
  | step i o v _ ho hv hr ih => exact h1 i o v ih ho hv hr
theorem Reach.mono {h : Hp} {rs ts : List Int} (hs : ∀ v ∈ rs, refB h.objs.length v = true → v ∈ ts) {i : Nat} (r : Reach h rs i) : Reach h ts i :=
  r.least (Reach h ts) (fun v hv hr => .root v (hs v hv hr) hr) (fun i o v hi ho hv hr => .step i o v hi ho hv hr)
theorem Reach.append {h : Hp} {rs ts : List Int} (i : Nat) : Reach h (rs ++ ts) i ↔ Reach h rs i ∨ Reach h ts i := by
  constructor
  · intro r
    refine r.least (fun i => Reach h rs i ∨ Reach h ts i) (fun v hv hr => ?_) (fun i o v hi ho hv hr => ?_)
    · rcases List.mem_append.1 hv with g | g
      · exact .inl (.root v g hr)
      · exact .inr (.root v g hr)
    · rcases hi with g | g
      · exact .inl (.step i o v g ho hv hr)
      · exact .inr (.step i o v g ho hv hr)
  · rintro (r | r)
    · exact r.mono fun v hv _ => List.mem_append_left _ hv
    · exact r.mono fun v hv _ => List.mem_append_right _ hv
open Classical in
/-- the numbers of what is reached, rising -/
noncomputable def liveN (h : Hp) (rs : List Int) : List Nat := (List.range h.objs.length).filter fun i => decide (Reach h rs i)
noncomputable def liveL (h : Hp) (rs : List Int) : List Int := (liveN h rs).map Int.ofNat
theorem mem_liveN {h : Hp} {rs : List Int} {i : Nat} : i ∈ liveN h rs ↔ Reach h rs i := by
  unfold liveN
  rw [List.mem_filter, List.mem_range]
  simp only [decide_eq_true_eq]
  exact ⟨fun a => a.2, fun a => ⟨a.lt, a⟩⟩
theorem mem_liveL {h : Hp} {rs : List Int} {x : Int} : x ∈ liveL h rs ↔ ∃ i : Nat, x = i ∧ Reach h rs i := by
  unfold liveL
  rw [List.mem_map]
  constructor
  · rintro ⟨i, hi, rfl⟩; exact ⟨i, rfl, mem_liveN.1 hi⟩
  · rintro ⟨i, rfl, hi⟩; exact ⟨i, mem_liveN.2 hi, rfl⟩
theorem liveN_sorted (h : Hp) (rs : List Int) : (liveN h rs).Pairwise (· < ·) := List.Pairwise.filter _ List.pairwise_lt_range
theorem liveL_sorted (h : Hp) (rs : List Int) : (liveL h rs).Pairwise (· < ·) := by
  unfold liveL
  exact List.Pairwise.map _ (fun a b hab => by show (a : Int) < (b : Int); omega) (liveN_sorted h rs)
theorem liveN_le (h : Hp) (rs : List Int) : (liveN h rs).length ≤ h.objs.length := by
  unfold liveN
  have := List.length_filter_le (fun i => @decide (Reach h rs i) (Classical.propDecidable _)) (List.range h.objs.length)
  rwa [List.length_range] at this
theorem liveL_length (h : Hp) (rs : List Int) : (liveL h rs).length = (liveN h rs).length := by unfold liveL; rw [List.length_map]
theorem sorted_unique : ∀ (l m : List Int), l.Pairwise (· < ·) → m.Pairwise (· < ·) → (∀ x, x ∈ l ↔ x ∈ m) → l = m
  | [], [], _, _, _ => rfl
  | [], b :: m, _, _, h => by have := (h b).2 (by simp); simp at this
  | a :: l, [], _, _, h => by have := (h a).1 (by simp); simp at this
  | a :: l, b :: m, hl, hm, h => by
    rw [List.pairwise_cons] at hl hm
    have hab : a = b := by
      have h1 := (h a).1 (by simp)
      have h2 := (h b).2 (by simp)
      rcases List.mem_cons.1 h1 with e | e
      · exact e
      · rcases List.mem_cons.1 h2 with g | g
        · exact g.symm
        · have := hl.1 _ g; have := hm.1 _ e; omega
    subst hab
    rw [sorted_unique l m hl.2 hm.2 fun x => ?_]
    constructor
    · intro hx
      have := (h x).1 (List.mem_cons_of_mem _ hx)
      rcases List.mem_cons.1 this with e | e
      · have := hl.1 _ hx; omega
      · exact e
    · intro hx
      have := (h x).2 (List.mem_cons_of_mem _ hx)
      rcases List.mem_cons.1 this with e | e
      · have := hm.1 _ hx; omega
      · exact e
/-- what the sort gives of what was met is what is reached -/
theorem sort_live {h : Hp} {rs : List Int} {M : List Nat} (hn : M.Nodup) (hm : ∀ i, i ∈ M ↔ Reach h rs i) : ((M.map Int.ofNat).mergeSort fun x y => decide (x ≤ y)) = liveL h rs := by
  have hp := List.mergeSort_perm (M.map Int.ofNat) (fun x y => decide (x ≤ y))
  refine sorted_unique _ _ ?_ (liveL_sorted h rs) fun x => ?_
  · have hs := List.pairwise_mergeSort (le := fun x y : Int => decide (x ≤ y)) (fun a b c h1 h2 => by simp only [decide_eq_true_eq] at *; omega) (fun a b => by simp only [Bool.or_eq_true, decide_eq_true_eq]; omega) (M.map Int.ofNat)
    have hd : ((M.map Int.ofNat).mergeSort fun x y => decide (x ≤ y)).Nodup := hp.nodup_iff.2 (hn.map _ fun a b hab e => hab (by exact Int.ofNat.inj e))
    refine (hs.and hd).imp fun {a b} hab => ?_
    obtain ⟨h1, h2⟩ := hab
    simp only [decide_eq_true_eq] at h1
    omega
  · rw [hp.mem_iff, mem_liveL, List.mem_map]
    constructor
    · rintro ⟨i, hi, rfl⟩; exact ⟨i, rfl, (hm i).1 hi⟩
    · rintro ⟨i, rfl, hi⟩; exact ⟨i, (hm i).2 hi, rfl⟩
/-- where the meeting stands: M met so far, all reached; the roots of rs are met; of the first k of M all that they lead to -/
structure Met (h : Hp) (rs : List Int) (M : List Nat) : Prop where
  nodup : M.Nodup
  sound : ∀ i ∈ M, Reach h rs i
theorem Met.lt {h : Hp} {rs : List Int} {M : List Nat} (m : Met h rs M) {i : Nat} (hi : i ∈ M) : i < h.objs.length := (m.sound i hi).lt
theorem nodup_le : ∀ {n : Nat} {M : List Nat}, M.Nodup → (∀ i ∈ M, i < n) → M.length ≤ n
  | 0, M, _, hl => by
    cases M with
    | nil => exact Nat.le_refl _
    | cons a t => have := hl a (by simp); omega
  | n + 1, M, hn, hl => by
    by_cases hm : n ∈ M
    · have e := List.length_erase_of_mem hm
      have h1 := nodup_le (n := n) (hn.erase n) fun i hi => by
        have h2 := hl i (List.mem_of_mem_erase hi)
        have h3 : i ≠ n := fun e => by subst e; exact (hn.not_mem_erase) hi
        omega
      omega
    · have := nodup_le (n := n) hn fun i hi => by
        have h2 := hl i hi
        have h3 : i ≠ n := fun e => by subst e; exact hm hi
        omega
      omega
theorem Met.len {h : Hp} {rs : List Int} {M : List Nat} (m : Met h rs M) : M.length ≤ h.objs.length := nodup_le m.nodup fun _ => m.lt
/-- v is met: its object, if it has one -/
def MetV (h : Hp) (M : List Nat) (v : Int) : Prop := refB h.objs.length v = true → (atV v).toNat ∈ M
/-- what meeting v makes of M -/
def meetL (h : Hp) (M : List Nat) (v : Int) : List Nat := if refB h.objs.length v = true ∧ (atV v).toNat ∉ M then M ++ [(atV v).toNat] else M
theorem meetL_sub {h : Hp} {M : List Nat} {v : Int} {i : Nat} (hi : i ∈ M) : i ∈ meetL h M v := by
  unfold meetL; split
  · exact List.mem_append_left _ hi
  · exact hi
theorem meetL_self {h : Hp} {M : List Nat} {v : Int} : MetV h (meetL h M v) v := fun hr => by
  unfold meetL; split
  · simp
  · rename_i hn
    by_cases hm : (atV v).toNat ∈ M
    · exact hm
    · exact absurd ⟨hr, hm⟩ hn
theorem MetV.meet {h : Hp} {M : List Nat} {u v : Int} (m : MetV h M u) : MetV h (meetL h M v) u := fun hr => meetL_sub (m hr)
theorem Met.meet {h : Hp} {rs : List Int} {M : List Nat} (m : Met h rs M) {v : Int} (hv : refB h.objs.length v = true → Reach h rs (atV v).toNat) : Met h rs (meetL h M v) := by
  unfold meetL
  split
  · rename_i hc
    refine ⟨?_, fun i hi => ?_⟩
    · rw [List.nodup_append]
      refine ⟨m.nodup, by simp, fun a ha b hb => ?_⟩
      obtain rfl : b = (atV v).toNat := by simpa using hb
      rintro rfl; exact hc.2 ha
    · rcases List.mem_append.1 hi with g | g
      · exact m.sound i g
      · obtain rfl : i = (atV v).toNat := by simpa using g
        exact hv hc.1
  · exact m
theorem meetL_pre (h : Hp) (M : List Nat) (v : Int) : ∃ t, meetL h M v = M ++ t := by
  unfold meetL; split
  · exact ⟨_, rfl⟩
  · exact ⟨[], by simp⟩
theorem meetL_get {h : Hp} {M : List Nat} {v : Int} {k i : Nat} (e : M[k]? = some i) : (meetL h M v)[k]? = some i := by
  obtain ⟨t, ht⟩ := meetL_pre h M v
  have hk : k < M.length := (List.getElem?_eq_some_iff.1 e).1
  rw [ht, List.getElem?_append_left hk, e]
/-- the first k of M lead to what is met alone -/
def Done (h : Hp) (M : List Nat) (k : Nat) : Prop := ∀ j i o, j < k → M[j]? = some i → h.objs[i]? = some o → ∀ v ∈ o.cls :: o.slots, MetV h M v
theorem Done.meet {h : Hp} {M : List Nat} {k : Nat} (d : Done h M k) (hk : k ≤ M.length) (u : Int) : Done h (meetL h M u) k := fun j i o hj he ho v hv => by
  refine MetV.meet (d j i o hj ?_ ho v hv)
  obtain ⟨t, ht⟩ := meetL_pre h M u
  rwa [ht, List.getElem?_append_left (by omega)] at he
theorem met_all {h : Hp} {rs : List Int} {M : List Nat} (m : Met h rs M) (hr : ∀ v ∈ rs, MetV h M v) (hd : Done h M M.length) (i : Nat) : i ∈ M ↔ Reach h rs i := by
  refine ⟨m.sound i, fun r => r.least (· ∈ M) (fun v hv hb => hr v hv hb) fun i o v hi ho hv hb => ?_⟩
  obtain ⟨j, hj, rfl⟩ := List.getElem_of_mem hi
  exact hd j _ o hj (List.getElem?_eq_getElem hj) ho v hv hb
end Go.Proofs.Ytimmoaomhilaeaa
namespace Go.Proofs.Ytimmoaomhilaeaa
open Go.RowKit
set_option maxRecDepth 100000
def liE (h : Hp) (rs : List Int) : Int := if mayB h = true then (if rs.all (hasB h.objs.length) = true then 0 else 31) else 1
noncomputable def liL (h : Hp) (rs : List Int) : List Int := if liE h rs = 0 then liveL h rs else []
/-- a list of ints of the call's own is returned, and an error -/
def IntsTwo (w : World) (L : List Int) (en : Int) (e : Ending) (w' : World) : Prop :=
  ∃ A c, e = .returned (.tuple #[.slice A L.length c, .int .i64 en]) ∧ IntsR w' A L ∧ (A = none → c = 0) ∧ L.length ≤ c ∧ Below w.heap.size w w'
noncomputable def mhB (h : Hp) (rs : List Int) (v : Int) : Bool := atB v && decide (atV v ∈ liL h rs)
theorem liL_len (h : Hp) (rs : List Int) : (liL h rs).length ≤ h.objs.length := by
  unfold liL
  split
  · rw [liveL_length]; exact liveN_le h rs
  · exact Nat.zero_le _
theorem ob_vals {n : Nat} {o : Ob} (h : obB n o = true) : refB n o.cls = true ∧ ∀ v ∈ o.slots, hasB n v = true := by
  unfold obB at h
  simp only [Bool.and_eq_true] at h
  exact ⟨h.1.1.1, List.all_eq_true.1 h.2⟩
theorem ref_has {n : Nat} {v : Int} (h : refB n v = true) : hasB n v = true := by unfold hasB; rw [h, Bool.or_true]
theorem bool_info : (Try.prog.info? 4).map (fun i => (i.zero, i.size, i.bytes)) = some (some (.bool false), 1, 1) := by kernel_rfl
/-- R.Ints -/
theorem rints_any (xs ys : List Int) (A B : Option Addr) (c d : Nat) (w : World) (ha : IntsR w A xs) (hb : IntsR w B ys) (hx : xs.length ≤ 9223372036854775807) :
    Calls Try.prog 15 #[.slice A xs.length c, .slice B ys.length d] w fun e w' => e = .returned (.bool (decide (xs = ys))) ∧ Below w.heap.size w w' := by
  have HA := hid ha
  have HB := hid hb
  clear ha hb
  by_cases hlen : xs.length = ys.length
  · go_enter Try.func15, Try.ntmps15
    go_wp2
    go_loopw [5] (fun i wr => ∃ k : Nat, k ≤ xs.length ∧ i = .int .i64 k ∧ xs.take k = ys.take k ∧ Below w.heap.size w wr) (fun i _ => xs.length - (intOf i).toNat)
    case atStart => exact ⟨0, Nat.zero_le _, rfl, rfl, Below.refl _ _⟩
    case round =>
      obtain ⟨k, hk, rfl, heq, hbw⟩ := hrel
      have HW := hid hbw
      have HE := hid heq
      clear hbw heq
      by_cases hlt : k < xs.length
      · obtain ⟨bs, os, rfl, hbs, hcs⟩ := HA.out (by omega)
        obtain ⟨bt, ot, rfl, hbt, hct⟩ := HB.out (by omega)
        have hlt' : k < ys.length := by omega
        have hcell : wr.cell? ⟨bs, os + k, none⟩ = some (.int .i64 xs[k]) := (HW.out.cell (p := ⟨bs, os + k, none⟩) hbs).trans (hcs k _ (List.getElem?_eq_getElem hlt))
        have hcelt : wr.cell? ⟨bt, ot + k, none⟩ = some (.int .i64 ys[k]) := (HW.out.cell (p := ⟨bt, ot + k, none⟩) hbt).trans (hct k _ (List.getElem?_eq_getElem hlt'))
        clear hcs hct
        by_cases he : xs[k] = ys[k]
        · have HXY : Hid (xs.take (k + 1) = ys.take (k + 1)) := by show _ = _; rw [List.take_succ_eq_append_getElem hlt, List.take_succ_eq_append_getElem hlt', HE.out, he]
          rw [he] at hcell
          go_wp2
          go_quiet (fail)
          go_wp2
          go_roundw
          case rel => exact ⟨k + 1, by omega, by go_num, HXY.out, below_go HW.out HW.out.size (below_drewN _ _)⟩
          case measure => simp [intOf]; omega
        · have hne : (xs[k] != ys[k]) = true := by simpa using he
          have HNE := hid he
          go_wp2
          go_quiet (fail)
          go_wp2
          go_ret
          refine ⟨?_, below_go HW.out HW.out.size (below_drewN _ _)⟩
          have : ¬ xs = ys := fun e => HNE.out (by simp [e])
          simp [this]
      · have hkn : k = xs.length := by omega
        go_wp2
        go_ret
        refine ⟨?_, HW.out⟩
        have : xs = ys := by
          have := HE.out
          rwa [hkn, List.take_length, hlen, List.take_length] at this
        simp [this]
  · have hne : ¬ ((xs.length : Int) = ys.length) := by omega
    have hne2 : ¬ xs = ys := fun e => hlen (by rw [e])
    go_enter Try.func15, Try.ntmps15
    go_wp2
    go_ret
    exact ⟨by simp [hne2], Below.refl _ _⟩
end Go.Proofs.Ytimmoaomhilaeaa
