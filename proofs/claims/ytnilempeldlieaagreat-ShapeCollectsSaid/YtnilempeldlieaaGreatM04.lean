/- What is reached in a heap from roots: over plain heaps. What mark.Live answers, said over plain heaps; R.Ints and R4.In walked. Small: whatever a heap has, it answers. Where an object's slot or byte lies, or what is wrong with it: place, wrong; what is read there: Get, Byte, the program's and the document's. What is read of a heap: Get, Byte. A place of a heap: the program's word. What is reached: of all objects, of none, of one. -/
import Derived.Test.YtnilempeldlieaaGreatM02
import Derived.Test.YtnilempeldlieaaGreatM03
namespace Go.Proofs.YtnilempeldlieaaGreat
open Go.RowKit
/-- an object's number is reached from the roots -/
inductive Reach (h : Hp) (rs : List Int) : Nat → Prop
  | root (v : Int) : v ∈ rs → refB h.objs.length v = true → Reach h rs (atV v).toNat
  | step (i : Nat) (o : Ob) (v : Int) : Reach h rs i → h.objs[i]? = some o → v ∈ o.cls :: o.slots → refB h.objs.length v = true → Reach h rs (atV v).toNat
theorem refB_nat {n : Nat} {v : Int} (h : refB n v = true) : (atV v).toNat < n ∧ ((atV v).toNat : Int) = atV v := by
  have := refB_no h; omega
theorem Reach.lt {h : Hp} {rs : List Int} {i : Nat} (r : Reach h rs i) : i < h.objs.length := by
  cases r with
  | root v _ hv => exact (refB_nat hv).1
  | step i o v _ _ _ hv => exact (refB_nat hv).1
theorem Reach.least {h : Hp} {rs : List Int} (S : Nat → Prop) (h0 : ∀ v ∈ rs, refB h.objs.length v = true → S (atV v).toNat)
    (h1 : ∀ i o v, S i → h.objs[i]? = some o → v ∈ o.cls :: o.slots → refB h.objs.length v = true → S (atV v).toNat) {i : Nat} (r : Reach h rs i) : S i := by
  induction r with
  | root v hv hr => exact h0 v hv hr
  | step i o v _ ho hv hr ih => exact h1 i o v ih ho hv hr
theorem Reach.mono {h : Hp} {rs ts : List Int} (hs : ∀ v ∈ rs, refB h.objs.length v = true → v ∈ ts) {i : Nat} (r : Reach h rs i) : Reach h ts i :=
  r.least (Reach h ts) (fun v hv hr => .root v (hs v hv hr) hr) (fun i o v hi ho hv hr => .step i o v hi ho hv hr)
theorem Reach.append {h : Hp} {rs ts : List Int} (i : Nat) : Reach h (rs ++ ts) i ↔ Reach h rs i ∨ Reach h ts i := by
  constructor
  · intro r
    refine r.least (fun i => Reach h rs i ∨ Reach h ts i) (fun v hv hr => ?_) (fun i o v hi ho hv hr => ?_)
    · rcases List.mem_append.1 hv with g | g
      · exact .inl (.root v g hr)
      · exact .inr (.root v g hr)
    · rcases hi with g | g
      · exact .inl (.step i o v g ho hv hr)
      · exact .inr (.step i o v g ho hv hr)
  · rintro (r | r)
    · exact r.mono fun v hv _ => List.mem_append_left _ hv
    · exact r.mono fun v hv _ => List.mem_append_right _ hv
open Classical in
/-- the numbers of what is reached, rising -/
noncomputable def liveN (h : Hp) (rs : List Int) : List Nat := (List.range h.objs.length).filter fun i => decide (Reach h rs i)
noncomputable def liveL (h : Hp) (rs : List Int) : List Int := (liveN h rs).map Int.ofNat
theorem mem_liveN {h : Hp} {rs : List Int} {i : Nat} : i ∈ liveN h rs ↔ Reach h rs i := by
  unfold liveN
  rw [List.mem_filter, List.mem_range]
  simp only [decide_eq_true_eq]
  exact ⟨fun a => a.2, fun a => ⟨a.lt, a⟩⟩
theorem mem_liveL {h : Hp} {rs : List Int} {x : Int} : x ∈ liveL h rs ↔ ∃ i : Nat, x = i ∧ Reach h rs i := by
  unfold liveL
  rw [List.mem_map]
  constructor
  · rintro ⟨i, hi, rfl⟩; exact ⟨i, rfl, mem_liveN.1 hi⟩
  · rintro ⟨i, rfl, hi⟩; exact ⟨i, mem_liveN.2 hi, rfl⟩
theorem liveN_sorted (h : Hp) (rs : List Int) : (liveN h rs).Pairwise (· < ·) := List.Pairwise.filter _ List.pairwise_lt_range
theorem liveL_sorted (h : Hp) (rs : List Int) : (liveL h rs).Pairwise (· < ·) := by
  unfold liveL
  exact List.Pairwise.map _ (fun a b hab => by show (a : Int) < (b : Int); omega) (liveN_sorted h rs)
theorem liveN_le (h : Hp) (rs : List Int) : (liveN h rs).length ≤ h.objs.length := by
  unfold liveN
  have := List.length_filter_le (fun i => @decide (Reach h rs i) (Classical.propDecidable _)) (List.range h.objs.length)
  rwa [List.length_range] at this
theorem liveL_length (h : Hp) (rs : List Int) : (liveL h rs).length = (liveN h rs).length := by unfold liveL; rw [List.length_map]
theorem sorted_unique : ∀ (l m : List Int), l.Pairwise (· < ·) → m.Pairwise (· < ·) → (∀ x, x ∈ l ↔ x ∈ m) → l = m
  | [], [], _, _, _ => rfl
  | [], b :: m, _, _, h => by have := (h b).2 (by simp); simp at this
  | a :: l, [], _, _, h => by have := (h a).1 (by simp); simp at this
  | a :: l, b :: m, hl, hm, h => by
    rw [List.pairwise_cons] at hl hm
    have hab : a = b := by
      have h1 := (h a).1 (by simp)
      have h2 := (h b).2 (by simp)
      rcases List.mem_cons.1 h1 with e | e
      · exact e
      · rcases List.mem_cons.1 h2 with g | g
        · exact g.symm
        · have := hl.1 _ g; have := hm.1 _ e; omega
    subst hab
    rw [sorted_unique l m hl.2 hm.2 fun x => ?_]
    constructor
    · intro hx
      have := (h x).1 (List.mem_cons_of_mem _ hx)
      rcases List.mem_cons.1 this with e | e
      · have := hl.1 _ hx; omega
      · exact e
    · intro hx
      have := (h x).2 (List.mem_cons_of_mem _ hx)
      rcases List.mem_cons.1 this with e | e
      · have := hm.1 _ hx; omega
      · exact e
/-- what the sort gives of what was met is what is reached -/
theorem sort_live {h : Hp} {rs : List Int} {M : List Nat} (hn : M.Nodup) (hm : ∀ i, i ∈ M ↔ Reach h rs i) : ((M.map Int.ofNat).mergeSort fun x y => decide (x ≤ y)) = liveL h rs := by
  have hp := List.mergeSort_perm (M.map Int.ofNat) (fun x y => decide (x ≤ y))
  refine sorted_unique _ _ ?_ (liveL_sorted h rs) fun x => ?_
  · have hs := List.pairwise_mergeSort (le := fun x y : Int => decide (x ≤ y)) (fun a b c h1 h2 => by simp only [decide_eq_true_eq] at *; omega) (fun a b => by simp only [Bool.or_eq_true, decide_eq_true_eq]; omega) (M.map Int.ofNat)
    have hd : ((M.map Int.ofNat).mergeSort fun x y => decide (x ≤ y)).Nodup := hp.nodup_iff.2 (hn.map _ fun a b hab e => hab (by exact Int.ofNat.inj e))
    refine (hs.and hd).imp fun {a b} hab => ?_
    obtain ⟨h1, h2⟩ := hab
    simp only [decide_eq_true_eq] at h1
    omega
  · rw [hp.mem_iff, mem_liveL, List.mem_map]
    constructor
    · rintro ⟨i, hi, rfl⟩; exact ⟨i, rfl, (hm i).1 hi⟩
    · rintro ⟨i, rfl, hi⟩; exact ⟨i, (hm i).2 hi, rfl⟩
/-- where the meeting stands: M met so far, all reached; the roots of rs are met; of the first k of M all that they lead to -/
structure Met (h : Hp) (rs : List Int) (M : List Nat) : Prop where
  nodup : M.Nodup
  sound : ∀ i ∈ M, Reach h rs i
theorem Met.lt {h : Hp} {rs : List Int} {M : List Nat} (m : Met h rs M) {i : Nat} (hi : i ∈ M) : i < h.objs.length := (m.sound i hi).lt
theorem nodup_le : ∀ {n : Nat} {M : List Nat}, M.Nodup → (∀ i ∈ M, i < n) → M.length ≤ n
  | 0, M, _, hl => by
    cases M with
    | nil => exact Nat.le_refl _
    | cons a t => have := hl a (by simp); omega
  | n + 1, M, hn, hl => by
    by_cases hm : n ∈ M
    · have e := List.length_erase_of_mem hm
      have h1 := nodup_le (n := n) (hn.erase n) fun i hi => by
        have h2 := hl i (List.mem_of_mem_erase hi)
        have h3 : i ≠ n := fun e => by subst e; exact (hn.not_mem_erase) hi
        omega
      omega
    · have := nodup_le (n := n) hn fun i hi => by
        have h2 := hl i hi
        have h3 : i ≠ n := fun e => by subst e; exact hm hi
        omega
      omega
theorem Met.len {h : Hp} {rs : List Int} {M : List Nat} (m : Met h rs M) : M.length ≤ h.objs.length := nodup_le m.nodup fun _ => m.lt
/-- v is met: its object, if it has one -/
def MetV (h : Hp) (M : List Nat) (v : Int) : Prop := refB h.objs.length v = true → (atV v).toNat ∈ M
/-- what meeting v makes of M -/
def meetL (h : Hp) (M : List Nat) (v : Int) : List Nat := if refB h.objs.length v = true ∧ (atV v).toNat ∉ M then M ++ [(atV v).toNat] else M
theorem meetL_sub {h : Hp} {M : List Nat} {v : Int} {i : Nat} (hi : i ∈ M) : i ∈ meetL h M v := by
  unfold meetL; split
  · exact List.mem_append_left _ hi
  · exact hi
theorem meetL_self {h : Hp} {M : List Nat} {v : Int} : MetV h (meetL h M v) v := fun hr => by
  unfold meetL; split
  · simp
  · rename_i hn
    by_cases hm : (atV v).toNat ∈ M
    · exact hm
    · exact absurd ⟨hr, hm⟩ hn
theorem MetV.meet {h : Hp} {M : List Nat} {u v : Int} (m : MetV h M u) : MetV h (meetL h M v) u := fun hr => meetL_sub (m hr)
theorem Met.meet {h : Hp} {rs : List Int} {M : List Nat} (m : Met h rs M) {v : Int} (hv : refB h.objs.length v = true → Reach h rs (atV v).toNat) : Met h rs (meetL h M v) := by
  unfold meetL
  split
  · rename_i hc
    refine ⟨?_, fun i hi => ?_⟩
    · rw [List.nodup_append]
      refine ⟨m.nodup, by simp, fun a ha b hb => ?_⟩
      obtain rfl : b = (atV v).toNat := by simpa using hb
      rintro rfl; exact hc.2 ha
    · rcases List.mem_append.1 hi with g | g
      · exact m.sound i g
      · obtain rfl : i = (atV v).toNat := by simpa using g
        exact hv hc.1
  · exact m
theorem meetL_pre (h : Hp) (M : List Nat) (v : Int) : ∃ t, meetL h M v = M ++ t := by
  unfold meetL; split
  · exact ⟨_, rfl⟩
  · exact ⟨[], by simp⟩
theorem meetL_get {h : Hp} {M : List Nat} {v : Int} {k i : Nat} (e : M[k]? = some i) : (meetL h M v)[k]? = some i := by
  obtain ⟨t, ht⟩ := meetL_pre h M v
  have hk : k < M.length := (List.getElem?_eq_some_iff.1 e).1
  rw [ht, List.getElem?_append_left hk, e]
/-- the first k of M lead to what is met alone -/
def Done (h : Hp) (M : List Nat) (k : Nat) : Prop := ∀ j i o, j < k → M[j]? = some i → h.objs[i]? = some o → ∀ v ∈ o.cls :: o.slots, MetV h M v
theorem Done.meet {h : Hp} {M : List Nat} {k : Nat} (d : Done h M k) (hk : k ≤ M.length) (u : Int) : Done h (meetL h M u) k := fun j i o hj he ho v hv => by
  refine MetV.meet (d j i o hj ?_ ho v hv)
  obtain ⟨t, ht⟩ := meetL_pre h M u
  rwa [ht, List.getElem?_append_left (by omega)] at he
theorem met_all {h : Hp} {rs : List Int} {M : List Nat} (m : Met h rs M) (hr : ∀ v ∈ rs, MetV h M v) (hd : Done h M M.length) (i : Nat) : i ∈ M ↔ Reach h rs i := by
  refine ⟨m.sound i, fun r => r.least (· ∈ M) (fun v hv hb => hr v hv hb) fun i o v hi ho hv hb => ?_⟩
  obtain ⟨j, hj, rfl⟩ := List.getElem_of_mem hi
  exact hd j _ o hj (List.getElem?_eq_getElem hj) ho v hv hb
end Go.Proofs.YtnilempeldlieaaGreat
namespace Go.Proofs.YtnilempeldlieaaGreat
open Go.RowKit
set_option maxRecDepth 100000
def liE (h : Hp) (rs : List Int) : Int := if mayB h = true then (if rs.all (hasB h.objs.length) = true then 0 else 31) else 1
noncomputable def liL (h : Hp) (rs : List Int) : List Int := if liE h rs = 0 then liveL h rs else []
/-- a list of ints of the call's own is returned, and an error -/
def IntsTwo (w : World) (L : List Int) (en : Int) (e : Ending) (w' : World) : Prop :=
  ∃ A c, e = .returned (.tuple #[.slice A L.length c, .int .i64 en]) ∧ IntsR w' A L ∧ (A = none → c = 0) ∧ L.length ≤ c ∧ Below w.heap.size w w'
noncomputable def mhB (h : Hp) (rs : List Int) (v : Int) : Bool := atB v && decide (atV v ∈ liL h rs)
theorem liL_len (h : Hp) (rs : List Int) : (liL h rs).length ≤ h.objs.length := by
  unfold liL
  split
  · rw [liveL_length]; exact liveN_le h rs
  · exact Nat.zero_le _
theorem ob_vals {n : Nat} {o : Ob} (h : obB n o = true) : refB n o.cls = true ∧ ∀ v ∈ o.slots, hasB n v = true := by
  unfold obB at h
  simp only [Bool.and_eq_true] at h
  exact ⟨h.1.1.1, List.all_eq_true.1 h.2⟩
theorem ref_has {n : Nat} {v : Int} (h : refB n v = true) : hasB n v = true := by unfold hasB; rw [h, Bool.or_true]
theorem bool_info : (Tryz.prog.info? 4).map (fun i => (i.zero, i.size, i.bytes)) = some (some (.bool false), 1, 1) := by kernel_rfl
/-- R.Ints -/
theorem rints_any (xs ys : List Int) (A B : Option Addr) (c d : Nat) (w : World) (ha : IntsR w A xs) (hb : IntsR w B ys) (hx : xs.length ≤ 9223372036854775807) :
    Calls Tryz.prog 12 #[.slice A xs.length c, .slice B ys.length d] w fun e w' => e = .returned (.bool (decide (xs = ys))) ∧ Below w.heap.size w w' := by
  have HA := hid ha
  have HB := hid hb
  clear ha hb
  by_cases hlen : xs.length = ys.length
  · go_enter Tryz.func12, Tryz.ntmps12
    go_wp2
    go_loopw [5] (fun i wr => ∃ k : Nat, k ≤ xs.length ∧ i = .int .i64 k ∧ xs.take k = ys.take k ∧ Below w.heap.size w wr) (fun i _ => xs.length - (intOf i).toNat)
    case atStart => exact ⟨0, Nat.zero_le _, rfl, rfl, Below.refl _ _⟩
    case round =>
      obtain ⟨k, hk, rfl, heq, hbw⟩ := hrel
      have HW := hid hbw
      have HE := hid heq
      clear hbw heq
      by_cases hlt : k < xs.length
      · obtain ⟨bs, os, rfl, hbs, hcs⟩ := HA.out (by omega)
        obtain ⟨bt, ot, rfl, hbt, hct⟩ := HB.out (by omega)
        have hlt' : k < ys.length := by omega
        have hcell : wr.cell? ⟨bs, os + k, none⟩ = some (.int .i64 xs[k]) := (HW.out.cell (p := ⟨bs, os + k, none⟩) hbs).trans (hcs k _ (List.getElem?_eq_getElem hlt))
        have hcelt : wr.cell? ⟨bt, ot + k, none⟩ = some (.int .i64 ys[k]) := (HW.out.cell (p := ⟨bt, ot + k, none⟩) hbt).trans (hct k _ (List.getElem?_eq_getElem hlt'))
        clear hcs hct
        by_cases he : xs[k] = ys[k]
        · have HXY : Hid (xs.take (k + 1) = ys.take (k + 1)) := by show _ = _; rw [List.take_succ_eq_append_getElem hlt, List.take_succ_eq_append_getElem hlt', HE.out, he]
          rw [he] at hcell
          go_wp2
          go_quiet (fail)
          go_wp2
          go_roundw
          case rel => exact ⟨k + 1, by omega, by go_num, HXY.out, below_go HW.out HW.out.size (below_drewN _ _)⟩
          case measure => simp [intOf]; omega
        · have hne : (xs[k] != ys[k]) = true := by simpa using he
          have HNE := hid he
          go_wp2
          go_quiet (fail)
          go_wp2
          go_ret
          refine ⟨?_, below_go HW.out HW.out.size (below_drewN _ _)⟩
          have : ¬ xs = ys := fun e => HNE.out (by simp [e])
          simp [this]
      · have hkn : k = xs.length := by omega
        go_wp2
        go_ret
        refine ⟨?_, HW.out⟩
        have : xs = ys := by
          have := HE.out
          rwa [hkn, List.take_length, hlen, List.take_length] at this
        simp [this]
  · have hne : ¬ ((xs.length : Int) = ys.length) := by omega
    have hne2 : ¬ xs = ys := fun e => hlen (by rw [e])
    go_enter Tryz.func12, Tryz.ntmps12
    go_wp2
    go_ret
    exact ⟨by simp [hne2], Below.refl _ _⟩
end Go.Proofs.YtnilempeldlieaaGreat
namespace Go.Proofs.YtnilempeldlieaaGreat
open Go.RowKit
def SomeBool (w : World) (e : Ending) (w' : World) : Prop := ∃ b, e = .returned (.bool b) ∧ Below w.heap.size w w'
set_option maxRecDepth 100000 in
set_option maxHeartbeats 4000000 in
theorem small_ok (h : Hp) (A : Option Addr) (c : Nat) (w : World) (hs : ObsR w A h.objs) (fit : h.Fit) :
    Calls Tryz.prog 6 #[.agg #[.slice A h.objs.length c, .int .i64 h.cap, .int .i64 h.last]] w (SomeBool w) := by
  have HB0 := hid (below_alloc w (.cells #[Value.slice A h.objs.length c, Value.int .i64 h.cap, Value.int .i64 h.last] 24))
  have HX := hid (BoxH.new w h A c)
  have HS := hid hs
  have hl : h.objs.length ≤ 9223372036854775807 := fit.1
  clear hs fit
  go_enter Tryz.func6, Tryz.ntmps6
  go_wp2
  go_loopw [3, 4] (fun n i wr => ∃ (k : Nat) (z : Int), k ≤ h.objs.length ∧ i = .int .i64 k ∧ n = .int .i64 z ∧ Below w.heap.size w wr ∧ BoxH wr w.heap.size h A c) (fun _ i _ => h.objs.length - (intOf i).toNat)
  case atStart => exact ⟨0, 0, Nat.zero_le _, rfl, rfl, HB0.out, HX.out⟩
  case round =>
    obtain ⟨k, z, hk, rfl, rfl, hbw, hX⟩ := hrel
    have HW := hid hbw
    have HX' := hid hX
    clear hbw HX
    obtain ⟨e0, -, -⟩ := hX
    by_cases hlt : k < h.objs.length
    · by_cases hz : z < 5000
      · obtain ⟨bs, os, rfl, hbs, hcs⟩ := HS.out (by omega)
        obtain ⟨S, d, hob, hin, _⟩ := hcs k _ (List.getElem?_eq_getElem hlt)
        obtain ⟨c0, c1, c2, c3, c4, c5⟩ := hob.below hbs HW.out
        clear hcs hob hin
        go_wp2
        go_quiet (fail)
        go_wp2
        go_roundw
        case rel => exact ⟨k + 1, _, by omega, by go_num, rfl, below_go HW.out HW.out.size (below_drewN _ _), HX'.out.later (below_drewN _ _)⟩
        case measure => simp [intOf]; omega
      · go_wp2
        all_goals go_ret
        all_goals exact ⟨_, rfl, HW.out⟩
    · go_wp2
      all_goals go_ret
      all_goals exact ⟨_, rfl, HW.out⟩
end Go.Proofs.YtnilempeldlieaaGreat
namespace Go.Proofs.YtnilempeldlieaaGreat
open Go.RowKit
theorem len_nil {s : ByteArray} (h : s.toList = []) : s.size = 0 := by
  rw [ByteArray.toList_eq] at h
  have := congrArg List.length h
  rw [Array.length_toList] at this
  exact this
instance : Inhabited Ob := ⟨⟨0, 0, [], ⟨#[]⟩, 0, 0⟩⟩
/-- the object whose ref v is -/
def obAt (h : Hp) (v : Int) : Ob := h.objs.getD (atV v).toNat default
/-- how many slots, or bytes, an object of a kind has -/
def szO (kind : Int) (o : Ob) : Int := if kind = 1 then (o.text.size : Int) else (o.slots.length : Int)
/-- what is wrong with a place -/
def plE (h : Hp) (v kind k : Int) : Int :=
  if mayB h = false then 1 else if refB h.objs.length v = false then 31 else if (obAt h v).kind ≠ kind then 33 else if k < 0 ∨ szO kind (obAt h v) ≤ k then 32 else 0
def plV (h : Hp) (v kind k : Int) : Int := if plE h v kind k = 0 then atV v else 0
theorem may_all {h : Hp} (hm : mayB h = true) : ∀ o ∈ h.objs, obB h.objs.length o = true := by
  unfold mayB at hm
  simp only [Bool.and_eq_true] at hm
  exact List.all_eq_true.1 hm.2
theorem may_len {h : Hp} (hm : mayB h = true) : h.objs.length ≤ 256 := by
  unfold mayB at hm
  simp only [Bool.and_eq_true, decide_eq_true_eq] at hm
  omega
theorem ob_kind {n : Nat} {o : Ob} (h : obB n o = true) : kiB o = true := by
  unfold obB at h
  simp only [Bool.and_eq_true] at h
  exact h.1.2
theorem kind_len {o : Ob} (h : kiB o = true) : o.slots.length ≤ 64 ∧ o.text.size ≤ 64 ∧ (o.kind = 0 → o.text.size = 0) ∧ (o.kind = 1 → o.slots.length = 0) ∧ 0 ≤ o.kind ∧ o.kind ≤ 2 := by
  unfold kiB at h
  split at h
  · simp only [Bool.and_eq_true, decide_eq_true_eq] at h
    have := len_nil h.1.2
    omega
  · split at h
    · simp only [Bool.and_eq_true, decide_eq_true_eq] at h
      have : o.slots.length = 0 := by rw [h.1.1]; rfl
      omega
    · split at h
      · simp only [Bool.and_eq_true, decide_eq_true_eq] at h
        have := len_nil h.1.2
        have : o.slots.length = 0 := by rw [h.1.1]; rfl
        omega
      · cases h
theorem obAt_get {h : Hp} {v : Int} (hr : refB h.objs.length v = true) : ∃ i : Nat, i < h.objs.length ∧ atV v = i ∧ h.objs[i]? = some (obAt h v) := by
  obtain ⟨_, h0, h1⟩ := refB_no hr
  have hi : (atV v).toNat < h.objs.length := by omega
  refine ⟨(atV v).toNat, hi, by omega, ?_⟩
  unfold obAt
  rw [List.getD_eq_getElem?_getD, List.getElem?_eq_getElem hi]; rfl

end Go.Proofs.YtnilempeldlieaaGreat
namespace Go.Proofs.YtnilempeldlieaaGreat
open Go.RowKit
def geV (h : Hp) (v k : Int) : Int := if plE h v 0 k = 0 then (obAt h v).slots.getD k.toNat 0 else 0
def byV (h : Hp) (v k : Int) : Int := if plE h v 1 k = 0 then (((obAt h v).text.data.getD k.toNat 0).toNat : Int) else 0
theorem pl_ok {h : Hp} {v kind k : Int} (e : plE h v kind k = 0) : mayB h = true ∧ refB h.objs.length v = true ∧ (obAt h v).kind = kind ∧ 0 ≤ k ∧ k < szO kind (obAt h v) := by
  unfold plE at e
  split at e
  · cases e
  · rename_i h1
    split at e
    · cases e
    · rename_i h2
      split at e
      · cases e
      · rename_i h3
        split at e
        · cases e
        · rename_i h4
          exact ⟨by simpa using h1, by simpa using h2, by simpa using h3, by omega, by omega⟩
theorem pl_v {h : Hp} {v kind k : Int} (e : plE h v kind k = 0) : plV h v kind k = atV v := by unfold plV; rw [if_pos e]
theorem ret_2 {a a' b b' : Int} (h1 : a = a') (h2 : b = b') : Ending.returned (.tuple #[.int .i64 a, .int .i64 b]) = .returned (.tuple #[.int .i64 a', .int .i64 b']) := by rw [h1, h2]
theorem wrap_byte (x : UInt8) : wrap64 (x.toNat : Int) = x.toNat := by
  have := x.toNat_lt
  unfold wrap64; omega
theorem text_at (s : ByteArray) (j : Nat) (hj : j < s.size) : s[j] = s.data.getD j 0 := by
  rw [Array.getD_eq_getD_getElem?]
  have : s.data[j]? = some s.data[j] := Array.getElem?_eq_getElem hj
  rw [this]; rfl
theorem getD_at (xs : List Int) (j : Nat) (hj : j < xs.length) : xs[j]? = some (xs.getD j 0) := by
  rw [List.getD_eq_getElem?_getD, List.getElem?_eq_getElem hj]; rfl

end Go.Proofs.YtnilempeldlieaaGreat
namespace Go.Proofs.YtnilempeldlieaaGreat
open Go.RowKit
set_option maxRecDepth 100000 in
set_option maxHeartbeats 4000000 in
theorem place_any (h : Hp) (v kind k : Int) (hkk : kind = 0 ∨ kind = 1) (A : Option Addr) (c : Nat) (w : World) (hs : ObsR w A h.objs) (fit : h.Fit) :
    Calls Tryz.prog 212 #[.agg #[.slice A h.objs.length c, .int .i64 h.cap, .int .i64 h.last], .int .i64 v, .int .i64 kind, .int .i64 k] w fun e w' => e = .returned (.tuple #[.int .i64 (plV h v kind k), .int .i64 (plE h v kind k)]) ∧ Below w.heap.size w w' := by
  have HB0 := hid (below_alloc w (.cells #[Value.slice A h.objs.length c, Value.int .i64 h.cap, Value.int .i64 h.last] 24))
  have HX := hid (BoxH.new w h A c)
  have HS := hid hs
  have HF := hid fit
  have HKK := hid hkk
  clear hs fit hkk
  cases hm : mayB h
  · have e1 : plE h v kind k = 1 := by unfold plE; rw [if_pos hm]
    have e2 : plV h v kind k = 0 := by unfold plV; rw [e1]; rfl
    rw [e1, e2]; clear e1 e2
    go_enter Tryz.func212, Tryz.ntmps212
    go_wp2_with fail
    refine (may_any h A c _ (HS.out.below HB0.out) HF.out).mono ?_
    rintro e w1 ⟨rfl, hb1⟩
    have HB1 := hid hb1
    clear hb1
    go_wp2_with fail
    go_ret2
    exact ⟨rfl, HB0.out.trans (HB1.out.mono (by simp))⟩
  · cases hr : refB h.objs.length v
    · have e1 : plE h v kind k = 31 := by unfold plE; rw [if_neg (by rw [hm]; decide), if_pos hr]
      have e2 : plV h v kind k = 0 := by unfold plV; rw [e1]; rfl
      rw [e1, e2]; clear e1 e2
      go_enter Tryz.func212, Tryz.ntmps212
      go_wp2_with fail
      refine (may_any h A c _ (HS.out.below HB0.out) HF.out).mono ?_
      rintro e w1 ⟨rfl, hb1⟩
      obtain ⟨x0, x1, x2⟩ := HX.out.later hb1
      have HB1 := hid (HB0.out.trans (hb1.mono (by simp)))
      clear hb1
      go_wp2_with fail
      refine (find_any h _ A c _).mono ?_
      rintro e w2 ⟨rfl, hb2⟩
      have HB2 := hid (HB1.out.trans (hb2.mono HB1.out.size))
      clear hb2
      go_wp2_with fail
      go_ret2
      exact ⟨rfl, HB2.out⟩
    · obtain ⟨i, hi, hv, ho⟩ := obAt_get hr
      have hmem : obAt h v ∈ h.objs := List.mem_of_getElem? ho
      obtain ⟨hl1, hl2, hl3, hl4, hl5, hl6⟩ := kind_len (ob_kind (may_all hm _ hmem))
      have hrv : refV h.objs.length v = (i : Int) := by unfold refV; rw [if_pos hr, hv]
      have E1 : Hid (plE h v kind k = if (obAt h v).kind ≠ kind then 33 else if k < 0 ∨ szO kind (obAt h v) ≤ k then 32 else 0) := by
        show _ = _
        unfold plE; rw [if_neg (by rw [hm]; decide), if_neg (by rw [hr]; decide)]
      have HV := hid hv
      obtain ⟨b, off, rfl, hlt, hc⟩ := HS.out (by omega)
      obtain ⟨S, d, hob, hin, hsd⟩ := hc i _ ho
      obtain ⟨o, hoo⟩ : ∃ o, o = obAt h v := ⟨_, rfl⟩
      have HOO := hid hoo
      rw [← hoo] at hl1 hl2 hl3 hl4 hl5 hl6 hob
      have HOB := hid hob
      have HL := hid (And.intro hl3 hl4)
      clear hc hin hsd hob hoo hmem ho hv hl3 hl4
      go_enter Tryz.func212, Tryz.ntmps212
      go_wp2_with fail
      refine (may_any h (some ⟨b, off, none⟩) c _ (HS.out.below HB0.out) HF.out).mono ?_
      rintro e w1 ⟨rfl, hb1⟩
      have HX1 := hid (HX.out.later hb1)
      obtain ⟨x0, x1, x2⟩ := HX1.out
      have HB1 := hid (HB0.out.trans (hb1.mono (by simp)))
      clear hb1
      go_wp2_with fail
      refine (find_any h _ (some ⟨b, off, none⟩) c _).mono ?_
      rintro e w2 ⟨rfl, hb2⟩
      have HB2 := hid (HB1.out.trans (hb2.mono HB1.out.size))
      clear x0 x1 x2
      obtain ⟨x0, x1, x2⟩ := HX1.out.later hb2
      obtain ⟨c0, c1, c2, c3, c4, c5⟩ := HOB.out.below hlt HB2.out
      clear hb2
      by_cases gk : o.kind = kind
      · have gk' : (o.kind != kind) = false := by simp [gk]
        have GK := hid gk
        clear gk
        by_cases g0 : k < 0
        · go_wp2_with fail
          go_ret2
          have e1 : plE h v kind k = 32 := by rw [E1.out, ← HOO.out, if_neg (by simp [GK.out]), if_pos (.inl g0)]
          exact ⟨by rw [show plV h v kind k = 0 by unfold plV; rw [e1]; rfl, e1]; rfl, HB2.out.trans ((below_alloc _ _).mono HB2.out.size)⟩
        · have g0' : 0 ≤ k := by omega
          clear g0
          have hsz : szO kind o = (o.slots.length : Int) + (o.text.size : Int) := by
            unfold szO
            rcases HKK.out with e | e
            · have := HL.out.1 (by rw [GK.out, e])
              rw [e, if_neg (by decide)]; omega
            · have := HL.out.2 (by rw [GK.out, e])
              rw [e, if_pos rfl]; omega
          have HSZ := hid hsz
          clear hsz
          by_cases g1 : (o.slots.length : Int) + (o.text.size : Int) ≤ k
          · go_wp2_with fail
            go_ret2
            have e1 : plE h v kind k = 32 := by rw [E1.out, ← HOO.out, if_neg (by simp [GK.out]), if_pos (.inr (by rw [HSZ.out]; exact g1))]
            exact ⟨by rw [show plV h v kind k = 0 by unfold plV; rw [e1]; rfl, e1]; rfl, HB2.out.trans ((below_alloc _ _).mono HB2.out.size)⟩
          · have g1' : k < (o.slots.length : Int) + (o.text.size : Int) := by omega
            clear g1
            go_wp2_with fail
            go_ret2
            have e1 : plE h v kind k = 0 := by rw [E1.out, ← HOO.out, if_neg (by simp [GK.out]), if_neg (by rw [HSZ.out]; omega)]
            exact ⟨by rw [show plV h v kind k = i by unfold plV; rw [if_pos e1, HV.out], e1]; rfl, HB2.out.trans ((below_alloc _ _).mono HB2.out.size)⟩
      · have gk' : (o.kind != kind) = true := by simp [gk]
        have GK := hid gk
        clear gk
        go_wp2_with fail
        go_ret2
        have e1 : plE h v kind k = 33 := by rw [E1.out, ← HOO.out, if_pos GK.out]
        exact ⟨by rw [show plV h v kind k = 0 by unfold plV; rw [e1]; rfl, e1]; rfl, HB2.out.trans ((below_alloc _ _).mono HB2.out.size)⟩
end Go.Proofs.YtnilempeldlieaaGreat
namespace Go.Proofs.YtnilempeldlieaaGreat
open Go.RowKit
def evens (n : Nat) : List Int := (List.range n).map fun i : Nat => 2 * (i : Int)
theorem at_even {i : Nat} (h : i < 1048576) : atB (2 * (i : Int)) = true ∧ atV (2 * (i : Int)) = i := by
  have h1 : atB (2 * (i : Int)) = true := atB_iff.2 (by omega)
  refine ⟨h1, ?_⟩
  unfold atV
  rw [if_pos h1]
  omega
theorem ref_even {n i : Nat} (hn : n ≤ 256) (h : i < n) : refB n (2 * (i : Int)) = true := by
  obtain ⟨h1, h2⟩ := at_even (i := i) (by omega)
  unfold refB
  rw [h1, h2]
  simpa using h
theorem evens_ok {h : Hp} (hm : mayB h = true) : liE h (evens h.objs.length) = 0 := by
  have hle := may_len hm
  unfold liE
  rw [if_pos hm, if_pos]
  refine List.all_eq_true.2 fun v hv => ?_
  obtain ⟨i, hi, rfl⟩ := List.mem_map.1 hv
  unfold hasB
  rw [ref_even hle (List.mem_range.1 hi), Bool.or_true]
theorem evens_live {h : Hp} (hm : mayB h = true) : (liL h (evens h.objs.length)).length = h.objs.length := by
  have hle := may_len hm
  unfold liL
  rw [if_pos (evens_ok hm), liveL_length]
  have : liveN h (evens h.objs.length) = List.range h.objs.length := by
    unfold liveN
    refine List.filter_eq_self.2 fun i hi => ?_
    have hi' := List.mem_range.1 hi
    have hr := ref_even (n := h.objs.length) hle hi'
    have := Reach.root (h := h) (rs := evens h.objs.length) (2 * (i : Int)) (List.mem_map.2 ⟨i, hi, rfl⟩) hr
    rw [(at_even (i := i) (by omega)).2, Int.toNat_natCast] at this
    simpa using this
  rw [this, List.length_range]
theorem none_reach {h : Hp} {i : Nat} : ¬ Reach h [] i := fun r => r.least (fun _ => False) (fun v hv => by simp at hv) (fun i o v hi => hi.elim)
theorem none_live {h : Hp} (hm : mayB h = true) : liE h [] = 0 ∧ liL h [] = [] := by
  have e : liE h [] = 0 := by unfold liE; rw [if_pos hm]; rfl
  refine ⟨e, ?_⟩
  unfold liL
  rw [if_pos e]
  refine List.eq_nil_iff_forall_not_mem.2 fun x hx => ?_
  obtain ⟨i, -, hi⟩ := mem_liveL.1 hx
  exact none_reach hi
theorem one_has {h : Hp} (hm : mayB h = true) (v : Int) : mhB h [v] v = refB h.objs.length v := by
  unfold mhB
  cases hr : refB h.objs.length v
  · cases ha : atB v
    · rfl
    · have hn : nB v = false := by
        cases hn : nB v
        · rfl
        · have := nB_iff.1 hn; have := atB_iff.1 ha; omega
      have e : liE h [v] = 31 := by
        unfold liE
        rw [if_pos hm, if_neg]
        simp [hasB, hn, hr]
      unfold liL
      rw [e]
      simp
  · obtain ⟨ha, h0, h1⟩ := refB_no hr
    have e : liE h [v] = 0 := by
      unfold liE
      rw [if_pos hm, if_pos]
      simp [hasB, hr]
    unfold liL
    rw [if_pos e, ha]
    have : atV v ∈ liveL h [v] := mem_liveL.2 ⟨_, (refB_nat hr).2.symm, .root v (by simp) hr⟩
    simpa using this
end Go.Proofs.YtnilempeldlieaaGreat
