/- The program's small words on methods and contexts: the value of a ref, of a SmallInteger; a SmallInteger within bounds; the object of a ref; is a value the ref of an object, or of a heap at all? The object of a ref, if it is of a kind: the program's word. -/
import Derived.Test.YtalfbdigjaibkaaGreatSCE12
namespace Go.Proofs.YtalfbdigjaibkaaGreat
open Go.RowKit
set_option maxRecDepth 100000
def inV12 (n : Int) : Int := if smB n then 2 * n + 1 else 0
theorem nat_or12 (m : Nat) (h : m % 2 = 0) : m ||| 1 = m + 1 := by
  have := Nat.two_pow_add_eq_or_of_lt (i := 1) (b := 1) (by decide) (m / 2)
  have e : 2 ^ 1 * (m / 2) = m := by omega
  rw [e] at this; exact this.symm
theorem or12 (n : Int) (h : n % 2 = 0) (h1 : -9223372036854775808 ≤ n) (h2 : n ≤ 9223372036854775806) : bits .or .i64 n 1 = n + 1 := by
  have e1 : (BitVec.ofInt 64 1).toNat = 1 := by decide
  have key : (BitVec.ofInt 64 n ||| BitVec.ofInt 64 1).toNat = (n % ((2 ^ 64 : Nat) : Int)).toNat + 1 := by
    rw [BitVec.toNat_or, BitVec.toNat_ofInt, e1, nat_or12]
    omega
  show IntKind.i64.wrap ((BitVec.ofInt 64 n ||| BitVec.ofInt 64 1).toNat : Nat) = n + 1
  rw [key, IntKind.wrap_i64]
  omega
theorem vint_any12 (n : Int) (w : World) : Calls Tryz.prog 84 #[.int .i64 n] w fun e w' => e = .returned (.tuple #[.int .i64 (inV12 n), .bool (smB n)]) ∧ w = w' := by
  cases h : smB n
  · go_enter Tryz.func84, Tryz.ntmps84
    go_wp2_with (go_at_call 104; refine (small_any _ _).mono ?_; rintro e w' ⟨rfl, rfl⟩)
    go_ret2; exact ⟨by simp [inV12, h], rfl⟩
  · have hb := smB_iff.1 h
    have e : inV12 n = bits .or .i64 (n * 2) 1 := by rw [or12 _ (by omega) (by omega) (by omega)]; simp [inV12, h]; omega
    rw [e]; clear e
    have h1 := hb.1
    have h2 := hb.2
    clear hb
    go_enter Tryz.func84, Tryz.ntmps84
    go_wp2_with (go_at_call 104; refine (small_any _ _).mono ?_; rintro e w' ⟨rfl, rfl⟩)
    go_ret2; exact ⟨rfl, rfl⟩
theorem pref_any12 (i : Int) (w : World) : Calls Tryz.prog 54 #[.int .i64 i] w fun e w' => e = .returned (.int .i64 (reV i)) ∧ w = w' := by
  go_enter Tryz.func54, Tryz.ntmps54
  go_wp2_with (go_at_call 86; refine (ref_any _ _).mono ?_; rintro e w' ⟨rfl, rfl⟩)
  go_ret
  exact ⟨rfl, rfl⟩
theorem psmall_any12 (n : Int) (w : World) : Calls Tryz.prog 51 #[.int .i64 n] w fun e w' => e = .returned (.int .i64 (inV12 n)) ∧ w = w' := by
  go_enter Tryz.func51, Tryz.ntmps51
  go_wp2_with (go_at_call 84; refine (vint_any12 _ _).mono ?_; rintro e w' ⟨rfl, rfl⟩)
  go_ret
  exact ⟨rfl, rfl⟩
/-- a SmallInteger, within bounds -/
def wi12 (v a b : Int) : Bool := nB v && (decide (a ≤ nV v) && decide (nV v ≤ b))
theorem pwithin_any12 (v a b : Int) (w : World) : Calls Tryz.prog 73 #[.int .i64 v, .int .i64 a, .int .i64 b] w fun e w' => e = .returned (.tuple #[.int .i64 (nV v), .bool (wi12 v a b)]) ∧ w = w' := by
  obtain ⟨r, hr⟩ : ∃ r, r = wi12 v a b := ⟨_, rfl⟩
  rw [← hr]
  have HR : Hid (r = (nB v && (decide (a ≤ nV v) && decide (nV v ≤ b)))) := hr
  clear hr
  cases hn : nB v
  · have HR2 : Hid (r = false) := by show _ = _; rw [HR.out, hn]; rfl
    rw [HR2.out]
    go_enter Tryz.func73, Tryz.ntmps73
    go_wp2_with fail
    refine (n_any v _).mono ?_
    rintro e w1 ⟨rfl, rfl⟩
    rw [hn]
    go_wp2_with fail
    go_ret2
    exact ⟨rfl, rfl⟩
  have HN := hid hn
  obtain ⟨n, hnv⟩ : ∃ n, n = nV v := ⟨_, rfl⟩
  have HNV := hid hnv
  rw [hn, ← hnv] at HR
  rw [← hnv]
  clear hn hnv
  by_cases g : a ≤ n
  · have HR2 : Hid (r = decide (n ≤ b)) := by show _ = _; rw [HR.out, decide_eq_true g]; rfl
    rw [HR2.out]
    go_enter Tryz.func73, Tryz.ntmps73
    go_wp2_with fail
    refine (n_any v _).mono ?_
    rintro e w1 ⟨rfl, rfl⟩
    rw [HN.out, ← HNV.out]
    go_wp2_with fail
    go_ret2
    exact ⟨rfl, rfl⟩
  · have HR2 : Hid (r = false) := by show _ = _; rw [HR.out, decide_eq_false g]; rfl
    rw [HR2.out]
    go_enter Tryz.func73, Tryz.ntmps73
    go_wp2_with fail
    refine (n_any v _).mono ?_
    rintro e w1 ⟨rfl, rfl⟩
    rw [HN.out, ← HNV.out]
    go_wp2_with fail
    go_ret2
    exact ⟨rfl, rfl⟩
theorem pfind_any12 (h : Hp) (v : Int) (A : Option Addr) (c : Nat) (w : World) :
    Calls Tryz.prog 72 #[.agg #[.slice A h.objs.length c, .int .i64 h.cap, .int .i64 h.last], .int .i64 v] w fun e w' => e = .returned (.tuple #[.int .i64 (refV h.objs.length v), .bool (refB h.objs.length v)]) ∧ Below w.heap.size w w' := by
  have HB := hid (below_alloc w (.cells #[Value.slice A h.objs.length c, Value.int .i64 h.cap, Value.int .i64 h.last] 24))
  go_enter Tryz.func72, Tryz.ntmps72
  go_wp2_with (go_at_call 95; refine (at_any _ _).mono ?_; rintro e w' ⟨rfl, rfl⟩)
  all_goals go_ret2
  all_goals
    refine ⟨?_, HB.out⟩
    refine congrArg (fun x => Ending.returned (Value.tuple x)) ?_
    simp_all [refV, refB]
    try omega
theorem pisref_any12 (h : Hp) (v : Int) (A : Option Addr) (c : Nat) (w : World) :
    Calls Tryz.prog 56 #[.agg #[.slice A h.objs.length c, .int .i64 h.cap, .int .i64 h.last], .int .i64 v] w fun e w' => e = .returned (.bool (refB h.objs.length v)) ∧ Below w.heap.size w w' := by
  have HB := hid (below_alloc w (.cells #[Value.slice A h.objs.length c, Value.int .i64 h.cap, Value.int .i64 h.last] 24))
  go_enter Tryz.func56, Tryz.ntmps56
  go_wp2_with (go_at_call 72; refine (pfind_any12 h _ A c _).mono ?_; rintro e w' ⟨rfl, hb⟩)
  go_ret
  exact ⟨rfl, HB.out.trans (hb.mono (by simp))⟩
theorem pisval_any12 (h : Hp) (v : Int) (A : Option Addr) (c : Nat) (w : World) :
    Calls Tryz.prog 48 #[.agg #[.slice A h.objs.length c, .int .i64 h.cap, .int .i64 h.last], .int .i64 v] w fun e w' => e = .returned (.bool (hasB h.objs.length v)) ∧ Below w.heap.size w w' := by
  have HB := hid (below_alloc w (.cells #[Value.slice A h.objs.length c, Value.int .i64 h.cap, Value.int .i64 h.last] 24))
  cases hn : nB v
  · have e2 : hasB h.objs.length v = refB h.objs.length v := by simp [hasB, hn]
    rw [e2]; clear e2
    go_enter Tryz.func48, Tryz.ntmps48
    go_wp2_with (first | (go_at_call 82; refine (n_any _ _).mono ?_; rintro e w' ⟨rfl, rfl⟩) | (go_at_call 56; refine (pisref_any12 h _ A c _).mono ?_; rintro e w' ⟨rfl, hb⟩))
    go_ret
    exact ⟨rfl, HB.out.trans (hb.mono (by simp))⟩
  · have e2 : hasB h.objs.length v = true := by simp [hasB, hn]
    rw [e2]; clear e2
    go_enter Tryz.func48, Tryz.ntmps48
    go_wp2_with (first | (go_at_call 82; refine (n_any _ _).mono ?_; rintro e w' ⟨rfl, rfl⟩) | (go_at_call 56; refine (pisref_any12 h _ A c _).mono ?_; rintro e w' ⟨rfl, hb⟩))
    go_ret
    exact ⟨rfl, HB.out⟩
end Go.Proofs.YtalfbdigjaibkaaGreat
namespace Go.Proofs.YtalfbdigjaibkaaGreat
open Go.RowKit
set_option maxRecDepth 100000
/-- an object and whether it is of the kind are returned; its slots lie where the heap's lie -/
def KdP12 (u w : World) (h : Hp) (v k : Int) (e : Ending) (w' : World) : Prop := ∃ o S d, e = .returned (.tuple #[.agg #[.int .i64 o.cls, .int .i64 o.kind, .slice S o.slots.length d, .string o.text, .int .i64 o.bits, .int .i64 o.hash], .bool (kd12 h v k)]) ∧ IntsR u S o.slots ∧ (S = none → d = 0) ∧ (kd12 h v k = true → o = obAt h v) ∧ Below w.heap.size w w'
theorem kd_no12 {h : Hp} {v k : Int} (e : refB h.objs.length v = false) : kd12 h v k = false := by unfold kd12; rw [e]; rfl
theorem kd_un12 {h : Hp} {v k : Int} (e : (obAt h v).kind ≠ k) : kd12 h v k = false := by unfold kd12; rw [decide_eq_false e]; simp
theorem kd_is12 {h : Hp} {v k : Int} (e : refB h.objs.length v = true) (e2 : (obAt h v).kind = k) : kd12 h v k = true := by unfold kd12; rw [e, decide_eq_true e2]; rfl
theorem refV_I12 {n : Nat} {v : Int} (e : refB n v = true) : refV n v = refI n v := by unfold refV refI; rw [if_pos e, if_pos e]
def zO12 : Ob := ⟨0, 0, [], ⟨#[]⟩, 0, 0⟩
set_option maxHeartbeats 1000000 in
theorem pkind_any12 (h : Hp) (v k : Int) (A : Option Addr) (c : Nat) (u w : World) (hs : ObsR u A h.objs) (hu : Below u.heap.size u w) :
    Calls Tryz.prog 74 #[.agg #[.slice A h.objs.length c, .int .i64 h.cap, .int .i64 h.last], .int .i64 v, .int .i64 k] w (KdP12 u w h v k) := by
  obtain ⟨w0, hw0⟩ : ∃ w0, w0 = (w.alloc (.cells #[Value.slice A h.objs.length c, Value.int .i64 h.cap, Value.int .i64 h.last] 24)).alloc (.cells #[.int .i64 0, .int .i64 0, .slice none 0 0, .string ⟨#[]⟩, .int .i64 0, .int .i64 0] 60) := ⟨_, rfl⟩
  have HB0 : Hid (Below w.heap.size w w0) := by show Below _ _ _; rw [hw0]; exact below_alloc2 w _ _
  have HX0 : Hid (Lies w0 w.heap.size 24 #[Value.slice A h.objs.length c, Value.int .i64 h.cap, Value.int .i64 h.last]) := by show Lies _ _ _ _; rw [hw0]; exact ((Lies.new w _ _).alloc _)
  have HK0 : Hid (Lies w0 (w.heap.size + 1) 60 #[.int .i64 0, .int .i64 0, .slice none 0 0, .string ⟨#[]⟩, .int .i64 0, .int .i64 0]) := by
    show Lies _ _ _ _
    have := (Lies.new (w.alloc (.cells #[Value.slice A h.objs.length c, Value.int .i64 h.cap, Value.int .i64 h.last] 24)) 60 #[.int .i64 0, .int .i64 0, .slice none 0 0, .string ⟨#[]⟩, .int .i64 0, .int .i64 0])
    rw [hw0]
    simpa [Hid] using this
  have HS := hid hs
  have HU := hid hu
  clear hs hu
  go_enter Tryz.func74, Tryz.ntmps74
  go_upto_region 1 with fail
  rw [← hw0]
  clear hw0
  obtain ⟨x0, x1, x2⟩ := HX0.out.c3
  go_wp2_with fail
  refine (pfind_any12 h v A c _).mono ?_
  rintro e w1 ⟨rfl, hb⟩
  have HB1 := hid (then_w HB0.out hb)
  have HX1 := hid (HX0.out.later hb)
  have HK1 := hid (HK0.out.later hb)
  clear hb x0 x1 x2
  cases hr : refB h.objs.length v
  · have HR : Hid (kd12 h v k = false) := kd_no12 hr
    clear hr
    clear HX0 HK0 HB0
    obtain ⟨u0, u1, u2, u3, u4, u5⟩ := HK1.out.c6
    obtain ⟨uf0, uf1, uf2, uf3, uf4, uf5⟩ := HK1.out.f6
    go_wp2_with fail
    have K0 := ((((((HK1.out.set_ 0 (.int .i64 0)).set_ 1 (.int .i64 0)).set_ 2 (.slice none 0 0)).set_ 3 (.string ⟨#[]⟩)).set_ 4 (.int .i64 0)).set_ 5 (.int .i64 0))
    have r0 := K0.cell 0
    have r1 := K0.cell 1
    have r2 := K0.cell 2
    have r3 := K0.cell 3
    have r4 := K0.cell 4
    have r5 := K0.cell 5
    simp only [List.setIfInBounds_toArray, List.set_cons_zero, List.set_cons_succ, List.getElem?_toArray, List.getElem?_cons_zero, List.getElem?_cons_succ] at r0 r1 r2 r3 r4 r5
    refine bodyPost_ret (v := .tuple #[.agg #[.int .i64 0, .int .i64 0, .slice none 0 0, .string ⟨#[]⟩, .int .i64 0, .int .i64 0], .bool false]) (by simp [results, Tryz.results74, go_sem, r0, r1, r2, r3, r4, r5]) rfl ?_
    have HBE := ((((((HB1.out).setCell (p := ⟨w.heap.size + 1, 0, none⟩) (by simp) (.int .i64 0)).setCell (p := ⟨w.heap.size + 1, 1, none⟩) (by simp) (.int .i64 0)).setCell (p := ⟨w.heap.size + 1, 2, none⟩) (by simp) (.slice none 0 0)).setCell (p := ⟨w.heap.size + 1, 3, none⟩) (by simp) (.string ⟨#[]⟩)).setCell (p := ⟨w.heap.size + 1, 4, none⟩) (by simp) (.int .i64 0)).setCell (p := ⟨w.heap.size + 1, 5, none⟩) (by simp) (.int .i64 0)
    exact ⟨zO12, none, 0, by rw [HR.out]; rfl, fun h => absurd h (by decide), fun _ => rfl, fun h => (by rw [HR.out] at h; cases h), HBE⟩
  obtain ⟨i, b, off, S, d, hi, hil, rfl, hc, hint, hnil, hlt⟩ := ob_read12 HS.out (Below.refl _ _) hr
  have HI : Hid (refV h.objs.length v = i) := (refV_I12 hr).trans hi
  have hilI : (i : Int) < (h.objs.length : Int) := by omega
  have hi0 : (0 : Int) ≤ (i : Int) := by omega
  have HC := hid (hc.below hlt (HU.out.trans (HB1.out.mono HU.out.size)))
  have HIN := hid hint
  have HNL := hid hnil
  have HRR := hid hr
  rw [HI.out]
  obtain ⟨kk, hkk⟩ : ∃ kk, kk = (obAt h v).kind := ⟨_, rfl⟩
  have y1 := HC.out.c1
  rw [← hkk] at y1
  have HKK := hid hkk
  clear hi hc hint hnil hr hkk
  obtain ⟨x0, x1, x2⟩ := HX1.out.c3
  by_cases hk : kk = k
  · have hkB : (kk != k) = false := by rw [hk]; simp
    have HR : Hid (kd12 h v k = true) := kd_is12 HRR.out (by rw [← HKK.out]; exact hk)
    obtain ⟨o, ho⟩ : ∃ o, o = obAt h v := ⟨_, rfl⟩
    have HO := hid ho
    have ky := HC.out
    rw [← ho] at ky
    obtain ⟨y0, y1b, y2, y3, y4, y5⟩ := ky
    rw [← ho] at HIN
    clear ho
    clear HX0 HK0 HB0 y1
    have y1 := y1b
    have hkB2 : (o.kind != k) = false := by rw [HO.out, ← HKK.out]; exact hkB
    clear y1b
    obtain ⟨u0, u1, u2, u3, u4, u5⟩ := HK1.out.c6
    obtain ⟨uf0, uf1, uf2, uf3, uf4, uf5⟩ := HK1.out.f6
    go_wp2_with fail
    have K0 := ((((((HK1.out.set_ 0 (.int .i64 o.cls)).set_ 1 (.int .i64 o.kind)).set_ 2 (.slice S o.slots.length d)).set_ 3 (.string o.text)).set_ 4 (.int .i64 o.bits)).set_ 5 (.int .i64 o.hash))
    have r0 := K0.cell 0
    have r1 := K0.cell 1
    have r2 := K0.cell 2
    have r3 := K0.cell 3
    have r4 := K0.cell 4
    have r5 := K0.cell 5
    simp only [List.setIfInBounds_toArray, List.set_cons_zero, List.set_cons_succ, List.getElem?_toArray, List.getElem?_cons_zero, List.getElem?_cons_succ] at r0 r1 r2 r3 r4 r5
    refine bodyPost_ret (v := .tuple #[.agg #[.int .i64 o.cls, .int .i64 o.kind, .slice S o.slots.length d, .string o.text, .int .i64 o.bits, .int .i64 o.hash], .bool true]) (by simp [results, Tryz.results74, go_sem, r0, r1, r2, r3, r4, r5]) rfl ?_
    have HBE := ((((((HB1.out).setCell (p := ⟨w.heap.size + 1, 0, none⟩) (by simp) (.int .i64 o.cls)).setCell (p := ⟨w.heap.size + 1, 1, none⟩) (by simp) (.int .i64 o.kind)).setCell (p := ⟨w.heap.size + 1, 2, none⟩) (by simp) (.slice S o.slots.length d)).setCell (p := ⟨w.heap.size + 1, 3, none⟩) (by simp) (.string o.text)).setCell (p := ⟨w.heap.size + 1, 4, none⟩) (by simp) (.int .i64 o.bits)).setCell (p := ⟨w.heap.size + 1, 5, none⟩) (by simp) (.int .i64 o.hash)
    exact ⟨o, S, d, by rw [HR.out], HIN.out, HNL.out, fun _ => HO.out, HBE⟩
  · have hkB : (kk != k) = true := bne_iff_ne.2 hk
    have HR : Hid (kd12 h v k = false) := kd_un12 (by rw [← HKK.out]; exact hk)
    clear HX0 HK0 HB0
    obtain ⟨u0, u1, u2, u3, u4, u5⟩ := HK1.out.c6
    obtain ⟨uf0, uf1, uf2, uf3, uf4, uf5⟩ := HK1.out.f6
    go_wp2_with fail
    have K0 := ((((((HK1.out.set_ 0 (.int .i64 0)).set_ 1 (.int .i64 0)).set_ 2 (.slice none 0 0)).set_ 3 (.string ⟨#[]⟩)).set_ 4 (.int .i64 0)).set_ 5 (.int .i64 0))
    have r0 := K0.cell 0
    have r1 := K0.cell 1
    have r2 := K0.cell 2
    have r3 := K0.cell 3
    have r4 := K0.cell 4
    have r5 := K0.cell 5
    simp only [List.setIfInBounds_toArray, List.set_cons_zero, List.set_cons_succ, List.getElem?_toArray, List.getElem?_cons_zero, List.getElem?_cons_succ] at r0 r1 r2 r3 r4 r5
    refine bodyPost_ret (v := .tuple #[.agg #[.int .i64 0, .int .i64 0, .slice none 0 0, .string ⟨#[]⟩, .int .i64 0, .int .i64 0], .bool false]) (by simp [results, Tryz.results74, go_sem, r0, r1, r2, r3, r4, r5]) rfl ?_
    have HBE := ((((((HB1.out).setCell (p := ⟨w.heap.size + 1, 0, none⟩) (by simp) (.int .i64 0)).setCell (p := ⟨w.heap.size + 1, 1, none⟩) (by simp) (.int .i64 0)).setCell (p := ⟨w.heap.size + 1, 2, none⟩) (by simp) (.slice none 0 0)).setCell (p := ⟨w.heap.size + 1, 3, none⟩) (by simp) (.string ⟨#[]⟩)).setCell (p := ⟨w.heap.size + 1, 4, none⟩) (by simp) (.int .i64 0)).setCell (p := ⟨w.heap.size + 1, 5, none⟩) (by simp) (.int .i64 0)
    exact ⟨zO12, none, 0, by rw [HR.out]; rfl, fun h => absurd h (by decide), fun _ => rfl, fun h => (by rw [HR.out] at h; cases h), HBE⟩
end Go.Proofs.YtalfbdigjaibkaaGreat
