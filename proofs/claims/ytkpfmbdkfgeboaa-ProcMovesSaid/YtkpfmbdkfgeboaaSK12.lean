/- Is a value the ref of an object of a kind; its slots; a SmallInteger up to another one. -/
import Derived.Test.YtkpfmbdkfgeboaaR
import Derived.Test.YtkpfmbdkfgeboaaK
namespace Go.Proofs.Ytkpfmbdkfgeboaa
open Go.RowKit
set_option maxRecDepth 100000
/-- is a value the ref of an object of a kind? its slots, if it is Pointers -/
def kd12 (h : Hp) (v k : Int) : Bool := refB h.objs.length v && decide ((obAt h v).kind = k)
def sls12 (h : Hp) (v : Int) : List Int := if kd12 h v 0 then (obAt h v).slots else []
/-- a SmallInteger from 0 to another one; else -1 -/
def sm12 (v most : Int) : Int := if nB v = true ∧ 0 ≤ nV v ∧ nV v ≤ most then nV v else -1
theorem kd_ref12 {h : Hp} {v k : Int} (e : kd12 h v k = true) : refB h.objs.length v = true ∧ (obAt h v).kind = k := by
  unfold kd12 at e
  simp only [Bool.and_eq_true, decide_eq_true_eq] at e
  exact e
/-- a heap's object, read -/
theorem ob_read12 {h : Hp} {v : Int} {A : Option Addr} {w w' : World} (hs : ObsR w A h.objs) (hb : Below w.heap.size w w') (hr : refB h.objs.length v = true) :
    ∃ (i : Nat) (b off : Nat) (S : Option Addr) (d : Nat), refI h.objs.length v = i ∧ i < h.objs.length ∧ A = some ⟨b, off, none⟩ ∧ ObC w' b (off + i * 6) S d (obAt h v) ∧ IntsR w' S (obAt h v).slots ∧ (S = none → d = 0) ∧ b < w.heap.size := by
  obtain ⟨i, hi, hv, ho⟩ := obAt_get hr
  obtain ⟨b, off, rfl, hlt, hc⟩ := hs (by omega)
  obtain ⟨S, d, h1, h2, -, h4⟩ := hc i _ ho
  exact ⟨i, b, off, S, d, by rw [refI_nonneg hr, hv], hi, rfl, h1.below hlt hb, h2.below hb, h4, hlt⟩
theorem refI_no12 {n : Nat} {v : Int} (h : refB n v = false) : refI n v = -1 := by unfold refI; rw [if_neg (by rw [h]; decide)]
set_option maxHeartbeats 1000000 in
theorem rkind_any12 (h : Hp) (v k : Int) (A : Option Addr) (c : Nat) (w : World) (hs : ObsR w A h.objs) :
    Calls Try.prog 28 #[.agg #[.slice A h.objs.length c, .int .i64 h.cap, .int .i64 h.last], .int .i64 v, .int .i64 k] w fun e w' => e = .returned (.bool (kd12 h v k)) ∧ Below w.heap.size w w' := by
  obtain ⟨w0, hw0⟩ : ∃ w0, w0 = w.alloc (.cells #[Value.slice A h.objs.length c, Value.int .i64 h.cap, Value.int .i64 h.last] 24) := ⟨_, rfl⟩
  have HB0 : Hid (Below w.heap.size w w0) := by show Below _ _ _; rw [hw0]; exact below_alloc _ _
  have HX0 : Hid (Lies w0 w.heap.size 24 #[Value.slice A h.objs.length c, Value.int .i64 h.cap, Value.int .i64 h.last]) := by
    show Lies _ _ _ _
    rw [hw0]; exact Lies.new _ _ _
  have HS := hid hs
  clear hs
  obtain ⟨r, hr⟩ : ∃ r, r = kd12 h v k := ⟨_, rfl⟩
  rw [← hr]
  have HR := hid hr
  clear hr
  go_enter Try.func28, Try.ntmps28
  go_upto_region 1 with fail
  rw [← hw0]
  clear hw0
  obtain ⟨x0, x1, x2⟩ := HX0.out.c3
  go_wp2_with fail
  refine (rref_any h v A c _).mono ?_
  rintro e w1 ⟨rfl, hb⟩
  have HB1 := hid (HB0.out.trans (hb.mono HB0.out.size))
  have HX1 := hid (HX0.out.later hb)
  clear hb x0 x1 x2
  cases hr : refB h.objs.length v
  · have E1 := refI_no12 hr
    have HR2 : Hid (r = false) := by show _ = _; rw [HR.out]; unfold kd12; rw [hr]; rfl
    rw [E1]
    clear hr E1
    go_wp2_with fail
    go_ret
    exact ⟨by rw [HR2.out]; rfl, HB1.out⟩
  · obtain ⟨i, b, off, S, d, hi, hil, rfl, hc, hint, -, -⟩ := ob_read12 HS.out HB1.out hr
    have HR2 : Hid (r = decide ((obAt h v).kind = k)) := by show _ = _; rw [HR.out]; unfold kd12; rw [hr]; rfl
    have hilI : (i : Int) < (h.objs.length : Int) := by omega
    have hi0 : (0 : Int) ≤ (i : Int) := by omega
    have y1 := hc.c1
    obtain ⟨kk, hkk⟩ : ∃ kk, kk = (obAt h v).kind := ⟨_, rfl⟩
    rw [← hkk] at y1 HR2
    rw [hi]
    obtain ⟨x0, x1, x2⟩ := HX1.out.c3
    clear hr hi hc hint hkk
    by_cases hk : kk = k
    · have hkB : (kk == k) = true := by rw [hk]; exact beq_self_eq_true k
      go_wp2_with fail
      go_ret
      exact ⟨by rw [HR2.out]; first | rfl | simp [hk], HB1.out⟩
    · have hkB : (kk == k) = false := beq_eq_false_iff_ne.2 hk
      go_wp2_with fail
      go_ret
      exact ⟨by rw [HR2.out]; first | rfl | simp [hk], HB1.out⟩
theorem rsmall_any12 (v most : Int) (w : World) : Calls Try.prog 27 #[.int .i64 v, .int .i64 most] w fun e w' => e = .returned (.int .i64 (sm12 v most)) ∧ w = w' := by
  obtain ⟨r, hr⟩ : ∃ r, r = sm12 v most := ⟨_, rfl⟩
  rw [← hr]
  have HR : Hid (r = if nB v = true ∧ 0 ≤ nV v ∧ nV v ≤ most then nV v else -1) := hr
  clear hr
  cases hn : nB v
  · have HR2 : Hid (r = -1) := by show _ = _; rw [HR.out, if_neg (fun f => by rw [hn] at f; cases f.1)]
    rw [HR2.out]
    go_enter Try.func27, Try.ntmps27
    go_wp2_with fail
    refine (rn_any v _).mono ?_
    rintro e w1 ⟨rfl, rfl⟩
    rw [hn]
    go_wp2_with fail
    go_ret
    exact ⟨rfl, rfl⟩
  · have HN := hid hn
    obtain ⟨n, hnv⟩ : ∃ n, n = nV v := ⟨_, rfl⟩
    rw [hn, ← hnv] at HR
    have HNV := hid hnv
    clear hn hnv
    by_cases h0 : 0 ≤ n
    · by_cases h1 : n ≤ most
      · have HR2 : Hid (r = n) := by show _ = _; rw [HR.out, if_pos ⟨rfl, h0, h1⟩]
        rw [HR2.out]
        go_enter Try.func27, Try.ntmps27
        go_wp2_with fail
        refine (rn_any v _).mono ?_
        rintro e w1 ⟨rfl, rfl⟩
        rw [HN.out, ← HNV.out]
        go_wp2_with fail
        go_ret
        exact ⟨rfl, rfl⟩
      · have HR2 : Hid (r = -1) := by show _ = _; rw [HR.out, if_neg (fun f => h1 f.2.2)]
        rw [HR2.out]
        go_enter Try.func27, Try.ntmps27
        go_wp2_with fail
        refine (rn_any v _).mono ?_
        rintro e w1 ⟨rfl, rfl⟩
        rw [HN.out, ← HNV.out]
        go_wp2_with fail
        go_ret
        exact ⟨rfl, rfl⟩
    · have HR2 : Hid (r = -1) := by show _ = _; rw [HR.out, if_neg (fun f => h0 f.2.1)]
      rw [HR2.out]
      go_enter Try.func27, Try.ntmps27
      go_wp2_with fail
      refine (rn_any v _).mono ?_
      rintro e w1 ⟨rfl, rfl⟩
      rw [HN.out, ← HNV.out]
      go_wp2_with fail
      go_ret
      exact ⟨rfl, rfl⟩
/-- a slice of slots, read -/
def SlP12 (w : World) (h : Hp) (v : Int) (e : Ending) (w' : World) : Prop := ∃ S d, e = .returned (.slice S (sls12 h v).length d) ∧ IntsR w' S (sls12 h v) ∧ (S = none → d = 0) ∧ Below w.heap.size w w'
set_option maxHeartbeats 1000000 in
theorem rslots_any12 (h : Hp) (v : Int) (A : Option Addr) (c : Nat) (w : World) (hs : ObsR w A h.objs) : Calls Try.prog 10 #[.agg #[.slice A h.objs.length c, .int .i64 h.cap, .int .i64 h.last], .int .i64 v] w (SlP12 w h v) := by
  obtain ⟨w0, hw0⟩ : ∃ w0, w0 = w.alloc (.cells #[Value.slice A h.objs.length c, Value.int .i64 h.cap, Value.int .i64 h.last] 24) := ⟨_, rfl⟩
  have HB0 : Hid (Below w.heap.size w w0) := by show Below _ _ _; rw [hw0]; exact below_alloc _ _
  have HX0 : Hid (Lies w0 w.heap.size 24 #[Value.slice A h.objs.length c, Value.int .i64 h.cap, Value.int .i64 h.last]) := by
    show Lies _ _ _ _
    rw [hw0]; exact Lies.new _ _ _
  have HS := hid hs
  clear hs
  go_enter Try.func10, Try.ntmps10
  go_upto_region 1 with fail
  rw [← hw0]
  clear hw0
  obtain ⟨x0, x1, x2⟩ := HX0.out.c3
  go_wp2_with fail
  refine (rkind_any12 h v 0 A c _ (HS.out.below HB0.out)).mono ?_
  rintro e w1 ⟨rfl, hb⟩
  have HB1 := hid (HB0.out.trans (hb.mono HB0.out.size))
  have HX1 := hid (HX0.out.later hb)
  clear hb x0 x1 x2
  cases hk : kd12 h v 0
  · have EL : Hid (sls12 h v = []) := by show _ = _; unfold sls12; rw [if_neg (by rw [hk]; decide)]
    clear hk
    go_wp2_with fail
    go_ret
    exact ⟨none, 0, by rw [EL.out]; rfl, by rw [EL.out]; exact fun h => absurd h (Nat.lt_irrefl 0), fun _ => rfl, HB1.out⟩
  · have EL : Hid (sls12 h v = (obAt h v).slots) := by show _ = _; unfold sls12; rw [if_pos hk]
    obtain ⟨hr, -⟩ := kd_ref12 hk
    obtain ⟨i, b, off, S, d, hi, hil, rfl, hc, hint, hnil, -⟩ := ob_read12 HS.out HB1.out hr
    have hilI : (i : Int) < (h.objs.length : Int) := by omega
    have hi0 : (0 : Int) ≤ (i : Int) := by omega
    have y2 := hc.c2
    have HI := hid hi
    have HIN := hid hint
    have HNL := hid hnil
    obtain ⟨x0, x1, x2⟩ := HX1.out.c3
    clear hk hr hi hc hint hnil
    go_upto_region 3 with fail
    refine wp_region_held_drew (S := (fun w' => w'.cell? ⟨w.heap.size, 0, none⟩ = some (.slice (some ⟨b, off, none⟩) h.objs.length c) ∧ w'.cell? ⟨w.heap.size, 1, none⟩ = some (.int .i64 h.cap) ∧ w'.cell? ⟨w.heap.size, 2, none⟩ = some (.int .i64 h.last) ∧ w'.cell? ⟨b, off + i * 6 + 2, none⟩ = some (.slice S (obAt h v).slots.length d))) (by kernel_rfl) ?_ (fun hH0 => ?_)
    · exact ⟨x0, x1, x2, y2⟩
    refine tkI 0 ⟨some 9, .fieldAddr 24 (.tmp 2) 0, 0, "ref.go:22", #[], none⟩ ?v1 rfl (by kernel_rfl) (by rfl) ?y1 ?_
    case y1 => intro w hSw; (try dsimp only at hSw); go_simp; all_goals with_reducible rfl
    try simp only [apt12]
    refine tkI 1 ⟨some 10, .load 22 (.tmp 9), 22, "ref.go:22", #[⟨0, .data⟩], none⟩ ?v2 rfl (by kernel_rfl) (by rfl) ?y2 ?_
    case y2 => intro w hSw; (try dsimp only at hSw); go_simp; all_goals with_reducible rfl
    try simp only [apt12]
    refine tkI 2 ⟨some 11, .load 24 (.tmp 2), 24, "ref.go:22", #[], none⟩ ?v3 rfl (by kernel_rfl) (by rfl) ?y3 ?_
    case y3 => intro w hSw; (try dsimp only at hSw); go_simp; all_goals with_reducible rfl
    try simp only [apt12]
    refine tkI 3 ⟨some 12, .move (.tmp 1), 3, "ref.go:22", #[], none⟩ ?v4 rfl (by kernel_rfl) (by rfl) ?y4 ?_
    case y4 => intro w hSw; (try dsimp only at hSw); go_simp; all_goals with_reducible rfl
    try simp only [apt12]
    refine wpAnyH_ready (rs := [4]) (by kernel_rfl) (by simp) ?_
    refine AllReadyH.cons (i := 4) (o := ⟨some 13, .call { callee := .value (.func 26), args := #[.tmp 11, .tmp 12], argTypes := #[24, 3] }, 3, "ref.go:22", #[⟨2, .data⟩, ⟨3, .data⟩], none⟩) rfl (fun K hK => ?_) AllReadyH.nil
    go_simp
    go_at_call 26
    refine (rref_any h v _ c _).mono ?_
    rintro e u1 ⟨rfl, hb⟩
    rw [HI.out]
    have HV1 := hid (then_w (Below.refl w1.heap.size w1).drew hb)
    refine hK.out _ _ ?_ (fun hH1 => ?_)
    · exact ⟨cell_later hb hH0.1, cell_later hb hH0.2.1, cell_later hb hH0.2.2.1, cell_later hb hH0.2.2.2⟩
    clear hK K
    try simp only [apt12]
    clear hb
    refine tkI 5 ⟨some 14, .indexAddr 22 (.tmp 10) (.tmp 13), 0, "ref.go:22", #[⟨1, .data⟩, ⟨4, .data⟩], none⟩ ?v5 rfl (by kernel_rfl) (by rfl) ?y5 ?_
    case y5 => intro w hSw; (try dsimp only at hSw); go_simp; all_goals with_reducible rfl
    try simp only [apt12]
    refine tkI 6 ⟨some 15, .fieldAddr 43 (.tmp 14) 2, 0, "ref.go:22", #[⟨5, .data⟩], none⟩ ?v6 rfl (by kernel_rfl) (by rfl) ?y6 ?_
    case y6 => intro w hSw; (try dsimp only at hSw); go_simp; all_goals with_reducible rfl
    try simp only [apt12]
    refine tkI 7 ⟨some 16, .load 27 (.tmp 15), 27, "ref.go:22", #[⟨6, .data⟩], none⟩ ?v7 rfl (by kernel_rfl) (by rfl) ?y7 ?_
    case y7 => intro w hSw; (try dsimp only at hSw); go_simp; all_goals with_reducible rfl
    try simp only [apt12]
    refine tkI 8 ⟨some 4, .assign (.tmp 16), 27, "ref.go:22", #[⟨7, .data⟩, ⟨4, .chain⟩, ⟨0, .phase⟩, ⟨1, .phase⟩, ⟨2, .phase⟩, ⟨3, .phase⟩, ⟨4, .phase⟩, ⟨5, .phase⟩, ⟨6, .phase⟩, ⟨7, .phase⟩], none⟩ ?v8 rfl (by kernel_rfl) (by rfl) ?y8 ?_
    case y8 => intro w hSw; (try dsimp only at hSw); go_simp; all_goals with_reducible rfl
    try simp only [apt12]
    refine wpAnyH_done (by kernel_rfl) ?_ _
    go_wp2_with fail
    go_ret
    exact ⟨S, d, by rw [EL.out]; rfl, by rw [EL.out]; exact HIN.out.below HV1.out, HNL.out, then_w HB1.out HV1.out⟩
end Go.Proofs.Ytkpfmbdkfgeboaa
