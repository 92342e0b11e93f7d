/- A new context's object, filled slot by slot; the document's values. -/
import Derived.Test.YtalfbdigjaibkaaGreatSA12
import Derived.Test.YtalfbdigjaibkaaGreatMK0
import Derived.Test.YtalfbdigjaibkaaGreatF
import Derived.BigQuiet
namespace Go.Proofs.YtalfbdigjaibkaaGreat
open Go.RowKit
set_option maxRecDepth 100000
def setsL12 : Nat → List Int → List Int → List Int
  | _, [], xs => xs
  | off, y :: ys, xs => setsL12 (off + 1) ys (xs.set off y)
theorem setsL_len12 (ys : List Int) : ∀ off xs, (setsL12 off ys xs).length = xs.length := by
  induction ys with
  | nil => intro off xs; rfl
  | cons y ys ih => intro off xs; show (setsL12 (off + 1) ys (xs.set off y)).length = _; rw [ih]; simp
theorem setsL_is12 (ys : List Int) : ∀ (p q : List Int), ys.length ≤ q.length → setsL12 p.length ys (p ++ q) = p ++ (ys ++ q.drop ys.length) := by
  induction ys with
  | nil => intro p q _; rfl
  | cons y ys ih =>
    intro p q hq
    cases q with
    | nil => simp at hq
    | cons z q =>
      show setsL12 (p.length + 1) ys ((p ++ z :: q).set p.length y) = _
      have e : (p ++ z :: q).set p.length y = (p ++ [y]) ++ q := by
        rw [List.set_append, if_neg (Nat.lt_irrefl _), Nat.sub_self]; simp
      have h := ih (p ++ [y]) q (by simp at hq; omega)
      rw [e, show p.length + 1 = (p ++ [y]).length by simp, h]
      simp
/-- the slots of a new context; the heap behind it -/
def nl12 (sd tp m rc hm : Int) (args : List Int) : List Int := [sd, 1, 2 * tp + 1, m, rc, hm] ++ (args ++ List.replicate (16 - args.length) 0)
def nh12 (h : Hp) (L : List Int) : Hp := { objs := h.objs ++ [{ newO h 12 0 22 with slots := L }], cap := h.cap, last := nxI h.last }
def nn12 (h : Hp) (sd m rc hm : Int) (args : List Int) : Hp × Int × Int :=
  if (mt12 h m).2 ≠ 0 ∨ (args.length : Int) ≠ (mt12 h m).1.args then (h, 0, 120)
  else if refB h.objs.length sd = false ∨ refB h.objs.length hm = false ∨ hasB h.objs.length rc = false ∨ args.all (hasB h.objs.length) = false then (h, 0, 31)
  else if roE h 12 0 22 ≠ 0 then (h, 0, roE h 12 0 22)
  else (nh12 h (nl12 sd (mt12 h m).1.temps m rc (if hm = 0 then 2 * (h.objs.length : Int) else hm) args), 2 * (h.objs.length : Int), 0)
theorem sm_odd12 {j b : Int} (h0 : 0 ≤ j) (h1 : j ≤ b) (h2 : b ≤ 1000) : sm12 (2 * j + 1) b = j := by
  have hn : nB (2 * j + 1) = true := nB_iff.2 ⟨by omega, by omega, by omega⟩
  have hv : nV (2 * j + 1) = j := by unfold nV; rw [if_pos hn]; omega
  unfold sm12
  rw [hv, if_pos ⟨hn, h0, h1⟩]
theorem ref_mono12 {n m : Nat} {v : Int} (h : refB n v = true) (l : n ≤ m) : refB m v = true := by
  unfold refB at h ⊢
  simp only [Bool.and_eq_true, decide_eq_true_eq] at h ⊢
  exact ⟨h.1, by omega⟩
theorem has_mono12 {n m : Nat} {v : Int} (h : hasB n v = true) (l : n ≤ m) : hasB m v = true := by
  unfold hasB at h ⊢
  simp only [Bool.or_eq_true] at h ⊢
  exact h.imp id (fun g => ref_mono12 g l)
theorem ref_new12 {n : Nat} (h : n < 256) : refB (n + 1) (2 * (n : Int)) = true ∧ atV (2 * (n : Int)) = n := by
  have a : atB (2 * (n : Int)) = true := by
    unfold atB odB nuB
    have e : (2 * (n : Int)) / 2 = n := by omega
    rw [e]
    simp
    omega
  have b : atV (2 * (n : Int)) = n := by unfold atV; rw [if_pos a]; omega
  refine ⟨?_, b⟩
  unfold refB
  rw [a, b]
  simp
  omega
theorem nh_len12 (h : Hp) (X : List Int) : (nh12 h X).objs.length = h.objs.length + 1 := by unfold nh12; simp
theorem nh_al12 (h : Hp) : alH h 12 0 22 = nh12 h (List.replicate 22 0) := rfl
theorem nh_mayL12 {h : Hp} {L : List Int} (e : roE h 12 0 22 = 0) (hl : L.length = 22) (hall : L.all (hasB (h.objs.length + 1)) = true) : mayB (nh12 h L) = true := by
  obtain ⟨hm, hr, -, -, -, -, hc⟩ := ro_ok e
  have ha := may_all hm
  have hx : haB (nxI h.last) = true := by
    unfold nxI haB
    split
    · exact decide_eq_true (by omega)
    · decide
  have hn : obB (h.objs.length + 1) { newO h 12 0 22 with slots := L } = true := by
    unfold obB
    show (refB (h.objs.length + 1) 12 && haB (nxI h.last) && _ && _) = true
    rw [ref_mono12 hr (Nat.le_succ _), hx]
    rw [hall]
    have e : kiB { newO h 12 0 22 with slots := L } = true := by
      unfold kiB newO blankO
      simp [hl]
      try decide
    rw [e]
    rfl
  unfold mayB at hm ⊢
  simp only [Bool.and_eq_true, decide_eq_true_eq] at hm ⊢
  obtain ⟨⟨⟨h1, h2, h3⟩, h4⟩, h5⟩ := hm
  rw [nh_len12]
  refine ⟨⟨⟨h1, h2, ?_⟩, hx⟩, List.all_eq_true.2 fun o ho => ?_⟩
  · show ((h.objs.length + 1 : Nat) : Int) ≤ h.cap
    omega
  · rcases List.mem_append.1 ho with g | g
    · have := ha o g
      unfold obB at this ⊢
      simp only [Bool.and_eq_true] at this ⊢
      obtain ⟨⟨⟨g1, g2⟩, g3⟩, g4⟩ := this
      exact ⟨⟨⟨ref_mono12 g1 (Nat.le_succ _), g2⟩, g3⟩, List.all_eq_true.2 fun x hx => has_mono12 (List.all_eq_true.1 g4 x hx) (Nat.le_succ _)⟩
    · rw [List.mem_singleton.1 g]; exact hn
theorem has_nil12 (n : Nat) (h : 0 < n) : hasB n 0 = true := by
  have a : atB 0 = true := by decide
  have b : atV 0 = 0 := by decide
  unfold hasB refB
  rw [a, b, Bool.true_and, decide_eq_true (by omega), Bool.or_true]
theorem nh_may12 {h : Hp} (e : roE h 12 0 22 = 0) : mayB (nh12 h (List.replicate 22 0)) = true :=
  nh_mayL12 e (by simp) (List.all_eq_true.2 fun x hx => by rw [List.eq_of_mem_replicate hx]; exact has_nil12 _ (Nat.succ_pos _))
theorem may_cap12 {h : Hp} (hm : mayB h = true) : h.objs.length ≤ 256 := by
  unfold mayB at hm
  simp only [Bool.and_eq_true, decide_eq_true_eq] at hm
  omega
theorem nh_ob12 {h : Hp} (X : List Int) (hc : h.objs.length < 256) : obAt (nh12 h X) (2 * (h.objs.length : Int)) = { newO h 12 0 22 with slots := X } := by
  unfold obAt nh12
  rw [(ref_new12 hc).2]
  show (h.objs ++ [_]).getD ((h.objs.length : Int)).toNat default = _
  rw [Int.toNat_natCast, List.getD_eq_getElem?_getD, List.getElem?_append_right (Nat.le_refl _), Nat.sub_self]
  rfl
theorem nh_pl12 {h : Hp} {X : List Int} (hm : mayB (nh12 h X) = true) (hX : X.length = 22) {i : Int} (h0 : 0 ≤ i) (h1 : i < 22) : plE (nh12 h X) (2 * (h.objs.length : Int)) 0 i = 0 := by
  have hc := may_cap12 hm
  rw [nh_len12] at hc
  have hl : ((nh12 h X).objs.length) = h.objs.length + 1 := nh_len12 h X
  unfold plE
  rw [if_neg (by rw [hm]; decide), if_neg (by rw [hl, (ref_new12 (by omega)).1]; decide), nh_ob12 X (by omega), if_neg (by show ¬ ((0 : Int) ≠ 0); decide), if_neg]
  unfold szO
  rw [if_neg (by decide)]
  show ¬ (i < 0 ∨ (X.length : Int) ≤ i)
  omega
/-- one slot more -/
theorem nh_set12 {h : Hp} {X : List Int} (hm : mayB (nh12 h X) = true) (hX : X.length = 22) {i : Nat} (h1 : i < 22) {x : Int} (hx : hasB (h.objs.length + 1) x = true) :
    setE (nh12 h X) (2 * (h.objs.length : Int)) i x = 0 ∧ setR (nh12 h X) (2 * (h.objs.length : Int)) i x = nh12 h (X.set i x) ∧ mayB (nh12 h (X.set i x)) = true := by
  have hc := may_cap12 hm
  rw [nh_len12] at hc
  have p := nh_pl12 hm hX (i := i) (by omega) (by omega)
  have E : setE (nh12 h X) (2 * (h.objs.length : Int)) i x = 0 := by
    unfold setE
    rw [if_pos p, nh_len12, if_pos hx]
  have S : setH (nh12 h X) (2 * (h.objs.length : Int)) i x = nh12 h (X.set i x) := by
    unfold setH
    rw [nh_ob12 X (by omega), (ref_new12 (by omega)).2]
    unfold nh12
    simp only [Int.toNat_natCast]
    rw [List.set_append, if_neg (Nat.lt_irrefl _), Nat.sub_self]
    rfl
  refine ⟨E, ?_, ?_⟩
  · unfold setR; rw [if_pos E, S]
  · rw [← S]; exact set_may (placed p) (by rw [nh_len12]; exact hx)
theorem nh_fit12 {h : Hp} {X : List Int} (f : h.Fit) (hm : mayB (nh12 h X) = true) (hX : X.length = 22) : (nh12 h X).Fit := by
  have hc := may_cap12 hm
  refine ⟨by omega, fun o ho => ?_⟩
  rcases List.mem_append.1 ho with g | g
  · exact f.2 o g
  · rw [List.mem_singleton.1 g]; show X.length ≤ _; omega
theorem setsL_step12 (L X : List Int) (k : Nat) (hk : k < L.length) : setsL12 0 (L.take (k + 1)) X = (setsL12 0 (L.take k) X).set k (L[k]) := by
  suffices ∀ (L : List Int) (off : Nat) (X : List Int) (k : Nat) (hk : k < L.length), setsL12 off (L.take (k + 1)) X = (setsL12 off (L.take k) X).set (off + k) (L[k]) by
    have := this L 0 X k hk
    rwa [Nat.zero_add] at this
  intro L
  induction L with
  | nil => intro off X k hk; simp at hk
  | cons y L ih =>
    intro off X k hk
    cases k with
    | zero => rfl
    | succ k =>
      have := ih (off + 1) (X.set off y) k (by simpa using hk)
      show setsL12 (off + 1) (L.take (k + 1)) (X.set off y) = (setsL12 (off + 1) (L.take k) (X.set off y)).set (off + (k + 1)) (L[k]'(by simpa using hk))
      rw [this]
      congr 1
      omega
set_option maxHeartbeats 2000000 in
theorem rvals_any12 (h : Hp) (S : Option Addr) (xs : List Int) (d : Nat) (A : Option Addr) (c : Nat) (w : World) (hs : IntsR w S xs) (hl : xs.length ≤ 9223372036854775807) :
    Calls Tryz.prog 60 #[.agg #[.slice A h.objs.length c, .int .i64 h.cap, .int .i64 h.last], .slice S xs.length d] w fun e w' => e = .returned (.bool (xs.all (hasB h.objs.length))) ∧ Below w.heap.size w w' := by
  have HB0 := hid (below_alloc w (.cells #[Value.slice A h.objs.length c, Value.int .i64 h.cap, Value.int .i64 h.last] 24))
  have HX := hid (BoxH.new w h A c)
  have HS := hid hs
  clear hs
  go_enter Tryz.func60, Tryz.ntmps60
  go_wp2
  go_loopw [5] (fun i wr => ∃ k : Nat, k ≤ xs.length ∧ i = .int .i64 k ∧ (xs.take k).all (hasB h.objs.length) = true ∧ Below w.heap.size w wr ∧ BoxH wr w.heap.size h A c) (fun i _ => xs.length - (intOf i).toNat)
  case atStart => exact ⟨0, Nat.zero_le _, rfl, rfl, HB0.out, HX.out⟩
  case round =>
    obtain ⟨k, hk, rfl, hall, hbw, hX⟩ := hrel
    have HW := hid hbw
    have HX' := hid hX
    have HA := hid hall
    clear hbw HX hall
    obtain ⟨e0, e1, e2⟩ := hX
    by_cases hlt : k < xs.length
    · obtain ⟨bs, os, rfl, hbs, hcs⟩ := HS.out (by omega)
      have hcell : wr.cell? ⟨bs, os + k, none⟩ = some (.int .i64 xs[k]) := (HW.out.cell (p := ⟨bs, os + k, none⟩) hbs).trans (hcs k _ (List.getElem?_eq_getElem hlt))
      have htk : (xs.take (k + 1)).all (hasB h.objs.length) = ((xs.take k).all (hasB h.objs.length) && hasB h.objs.length xs[k]) := by
        rw [List.take_succ_eq_append_getElem hlt, List.all_append]; simp
      have HT := hid htk
      clear hcs htk
      go_wp2
      go_region_held3 (fun w' => w'.cell? ⟨w.heap.size, 0, none⟩ = some (.slice A h.objs.length c) ∧ w'.cell? ⟨w.heap.size, 1, none⟩ = some (.int .i64 h.cap) ∧ w'.cell? ⟨w.heap.size, 2, none⟩ = some (.int .i64 h.last) ∧ w'.cell? ⟨bs, os + k, none⟩ = some (.int .i64 xs[k]) ∧ Below wr.heap.size wr w')
        (first | exact ⟨e0, e1, e2, hcell, (Below.refl _ _).drew⟩ | exact ⟨cell_later hb e0, cell_later hb e1, cell_later hb e2, cell_later hb hcell, (Below.refl _ _).drew.trans hb⟩)
        (first | (go_at_call 52; refine (rhas_any h _ A c _).mono ?_; rintro e w' ⟨rfl, hb⟩))
      cases hv : hasB h.objs.length xs[k]
      · go_wp2
        go_ret
        refine ⟨ret_bool ?_, HW.out.drew.trans (hb.mono HW.out.size)⟩
        cases hx : xs.all (hasB h.objs.length)
        · rfl
        · have := List.all_eq_true.1 hx xs[k] (List.getElem_mem hlt)
          rw [hv] at this; cases this
      · go_wp2
        go_roundw
        case rel => exact ⟨k + 1, by omega, by go_num, by rw [HT.out, HA.out, hv]; rfl, HW.out.drew.trans (hb.mono HW.out.size), HX'.out.later ((Below.refl _ _).drew.trans hb)⟩
        case measure => simp [intOf]; omega
    · have e : k = xs.length := by omega
      subst e
      go_wp2
      go_ret
      have := HA.out
      rw [List.take_length] at this
      exact ⟨ret_bool this.symm, HW.out⟩
end Go.Proofs.YtalfbdigjaibkaaGreat
