/- The document's small words on methods and contexts: is a value the ref of an object of a kind; its slots; a SmallInteger up to another one. A list of ints appended to a row of the call's own; a method's box. The document's Unpack: its answer lies in memory that the call has laid. What is read stands, when five cells of another block are written. -/
import Derived.Test.YtalfbdigjaibkaaGreatSA12
import Derived.Test.YtalfbdigjaibkaaGreatSI11
import Derived.Test.YtalfbdigjaibkaaGreatSE11
import Derived.Test.YtalfbdigjaibkaaGreatR
import Derived.Test.YtalfbdigjaibkaaGreatK
namespace Go.Proofs.YtalfbdigjaibkaaGreat
open Go.RowKit
set_option maxRecDepth 100000
/-- a heap's object, read -/
theorem ob_read12 {h : Hp} {v : Int} {A : Option Addr} {w w' : World} (hs : ObsR w A h.objs) (hb : Below w.heap.size w w') (hr : refB h.objs.length v = true) :
    ∃ (i : Nat) (b off : Nat) (S : Option Addr) (d : Nat), refI h.objs.length v = i ∧ i < h.objs.length ∧ A = some ⟨b, off, none⟩ ∧ ObC w' b (off + i * 6) S d (obAt h v) ∧ IntsR w' S (obAt h v).slots ∧ (S = none → d = 0) ∧ b < w.heap.size := by
  obtain ⟨i, hi, hv, ho⟩ := obAt_get hr
  obtain ⟨b, off, rfl, hlt, hc⟩ := hs (by omega)
  obtain ⟨S, d, h1, h2, -, h4⟩ := hc i _ ho
  exact ⟨i, b, off, S, d, by rw [refI_nonneg hr, hv], hi, rfl, h1.below hlt hb, h2.below hb, h4, hlt⟩
theorem refI_no12 {n : Nat} {v : Int} (h : refB n v = false) : refI n v = -1 := by unfold refI; rw [if_neg (by rw [h]; decide)]
set_option maxHeartbeats 1000000 in
theorem rkind_any12 (h : Hp) (v k : Int) (A : Option Addr) (c : Nat) (w : World) (hs : ObsR w A h.objs) :
    Calls Tryz.prog 38 #[.agg #[.slice A h.objs.length c, .int .i64 h.cap, .int .i64 h.last], .int .i64 v, .int .i64 k] w fun e w' => e = .returned (.bool (kd12 h v k)) ∧ Below w.heap.size w w' := by
  obtain ⟨w0, hw0⟩ : ∃ w0, w0 = w.alloc (.cells #[Value.slice A h.objs.length c, Value.int .i64 h.cap, Value.int .i64 h.last] 24) := ⟨_, rfl⟩
  have HB0 : Hid (Below w.heap.size w w0) := by show Below _ _ _; rw [hw0]; exact below_alloc _ _
  have HX0 : Hid (Lies w0 w.heap.size 24 #[Value.slice A h.objs.length c, Value.int .i64 h.cap, Value.int .i64 h.last]) := by
    show Lies _ _ _ _
    rw [hw0]; exact Lies.new _ _ _
  have HS := hid hs
  clear hs
  obtain ⟨r, hr⟩ : ∃ r, r = kd12 h v k := ⟨_, rfl⟩
  rw [← hr]
  have HR := hid hr
  clear hr
  go_enter Tryz.func38, Tryz.ntmps38
  go_upto_region 1 with fail
  rw [← hw0]
  clear hw0
  obtain ⟨x0, x1, x2⟩ := HX0.out.c3
  go_wp2_with fail
  refine (rref_any h v A c _).mono ?_
  rintro e w1 ⟨rfl, hb⟩
  have HB1 := hid (HB0.out.trans (hb.mono HB0.out.size))
  have HX1 := hid (HX0.out.later hb)
  clear hb x0 x1 x2
  cases hr : refB h.objs.length v
  · have E1 := refI_no12 hr
    have HR2 : Hid (r = false) := by show _ = _; rw [HR.out]; unfold kd12; rw [hr]; rfl
    rw [E1]
    clear hr E1
    go_wp2_with fail
    go_ret
    exact ⟨by rw [HR2.out]; rfl, HB1.out⟩
  · obtain ⟨i, b, off, S, d, hi, hil, rfl, hc, hint, -, -⟩ := ob_read12 HS.out HB1.out hr
    have HR2 : Hid (r = decide ((obAt h v).kind = k)) := by show _ = _; rw [HR.out]; unfold kd12; rw [hr]; rfl
    have hilI : (i : Int) < (h.objs.length : Int) := by omega
    have hi0 : (0 : Int) ≤ (i : Int) := by omega
    have y1 := hc.c1
    obtain ⟨kk, hkk⟩ : ∃ kk, kk = (obAt h v).kind := ⟨_, rfl⟩
    rw [← hkk] at y1 HR2
    rw [hi]
    obtain ⟨x0, x1, x2⟩ := HX1.out.c3
    clear hr hi hc hint hkk
    by_cases hk : kk = k
    · have hkB : (kk == k) = true := by rw [hk]; exact beq_self_eq_true k
      go_wp2_with fail
      go_ret
      exact ⟨by rw [HR2.out]; first | rfl | simp [hk], HB1.out⟩
    · have hkB : (kk == k) = false := beq_eq_false_iff_ne.2 hk
      go_wp2_with fail
      go_ret
      exact ⟨by rw [HR2.out]; first | rfl | simp [hk], HB1.out⟩
theorem rsmall_any12 (v most : Int) (w : World) : Calls Tryz.prog 41 #[.int .i64 v, .int .i64 most] w fun e w' => e = .returned (.int .i64 (sm12 v most)) ∧ w = w' := by
  obtain ⟨r, hr⟩ : ∃ r, r = sm12 v most := ⟨_, rfl⟩
  rw [← hr]
  have HR : Hid (r = if nB v = true ∧ 0 ≤ nV v ∧ nV v ≤ most then nV v else -1) := hr
  clear hr
  cases hn : nB v
  · have HR2 : Hid (r = -1) := by show _ = _; rw [HR.out, if_neg (fun f => by rw [hn] at f; cases f.1)]
    rw [HR2.out]
    go_enter Tryz.func41, Tryz.ntmps41
    go_wp2_with fail
    refine (rn_any v _).mono ?_
    rintro e w1 ⟨rfl, rfl⟩
    rw [hn]
    go_wp2_with fail
    go_ret
    exact ⟨rfl, rfl⟩
  · have HN := hid hn
    obtain ⟨n, hnv⟩ : ∃ n, n = nV v := ⟨_, rfl⟩
    rw [hn, ← hnv] at HR
    have HNV := hid hnv
    clear hn hnv
    by_cases h0 : 0 ≤ n
    · by_cases h1 : n ≤ most
      · have HR2 : Hid (r = n) := by show _ = _; rw [HR.out, if_pos ⟨rfl, h0, h1⟩]
        rw [HR2.out]
        go_enter Tryz.func41, Tryz.ntmps41
        go_wp2_with fail
        refine (rn_any v _).mono ?_
        rintro e w1 ⟨rfl, rfl⟩
        rw [HN.out, ← HNV.out]
        go_wp2_with fail
        go_ret
        exact ⟨rfl, rfl⟩
      · have HR2 : Hid (r = -1) := by show _ = _; rw [HR.out, if_neg (fun f => h1 f.2.2)]
        rw [HR2.out]
        go_enter Tryz.func41, Tryz.ntmps41
        go_wp2_with fail
        refine (rn_any v _).mono ?_
        rintro e w1 ⟨rfl, rfl⟩
        rw [HN.out, ← HNV.out]
        go_wp2_with fail
        go_ret
        exact ⟨rfl, rfl⟩
    · have HR2 : Hid (r = -1) := by show _ = _; rw [HR.out, if_neg (fun f => h0 f.2.1)]
      rw [HR2.out]
      go_enter Tryz.func41, Tryz.ntmps41
      go_wp2_with fail
      refine (rn_any v _).mono ?_
      rintro e w1 ⟨rfl, rfl⟩
      rw [HN.out, ← HNV.out]
      go_wp2_with fail
      go_ret
      exact ⟨rfl, rfl⟩
/-- a slice of slots, read -/
def SlP12 (w : World) (h : Hp) (v : Int) (e : Ending) (w' : World) : Prop := ∃ S d, e = .returned (.slice S (sls12 h v).length d) ∧ IntsR w' S (sls12 h v) ∧ (S = none → d = 0) ∧ Below w.heap.size w w'
set_option maxHeartbeats 1000000 in
theorem rslots_any12 (h : Hp) (v : Int) (A : Option Addr) (c : Nat) (w : World) (hs : ObsR w A h.objs) : Calls Tryz.prog 31 #[.agg #[.slice A h.objs.length c, .int .i64 h.cap, .int .i64 h.last], .int .i64 v] w (SlP12 w h v) := by
  obtain ⟨w0, hw0⟩ : ∃ w0, w0 = w.alloc (.cells #[Value.slice A h.objs.length c, Value.int .i64 h.cap, Value.int .i64 h.last] 24) := ⟨_, rfl⟩
  have HB0 : Hid (Below w.heap.size w w0) := by show Below _ _ _; rw [hw0]; exact below_alloc _ _
  have HX0 : Hid (Lies w0 w.heap.size 24 #[Value.slice A h.objs.length c, Value.int .i64 h.cap, Value.int .i64 h.last]) := by
    show Lies _ _ _ _
    rw [hw0]; exact Lies.new _ _ _
  have HS := hid hs
  clear hs
  go_enter Tryz.func31, Tryz.ntmps31
  go_upto_region 1 with fail
  rw [← hw0]
  clear hw0
  obtain ⟨x0, x1, x2⟩ := HX0.out.c3
  go_wp2_with fail
  refine (rkind_any12 h v 0 A c _ (HS.out.below HB0.out)).mono ?_
  rintro e w1 ⟨rfl, hb⟩
  have HB1 := hid (HB0.out.trans (hb.mono HB0.out.size))
  have HX1 := hid (HX0.out.later hb)
  clear hb x0 x1 x2
  cases hk : kd12 h v 0
  · have EL : Hid (sls12 h v = []) := by show _ = _; unfold sls12; rw [if_neg (by rw [hk]; decide)]
    clear hk
    go_wp2_with fail
    go_ret
    exact ⟨none, 0, by rw [EL.out]; rfl, by rw [EL.out]; exact fun h => absurd h (Nat.lt_irrefl 0), fun _ => rfl, HB1.out⟩
  · have EL : Hid (sls12 h v = (obAt h v).slots) := by show _ = _; unfold sls12; rw [if_pos hk]
    obtain ⟨hr, -⟩ := kd_ref12 hk
    obtain ⟨i, b, off, S, d, hi, hil, rfl, hc, hint, hnil, -⟩ := ob_read12 HS.out HB1.out hr
    have hilI : (i : Int) < (h.objs.length : Int) := by omega
    have hi0 : (0 : Int) ≤ (i : Int) := by omega
    have y2 := hc.c2
    have HI := hid hi
    have HIN := hid hint
    have HNL := hid hnil
    obtain ⟨x0, x1, x2⟩ := HX1.out.c3
    clear hk hr hi hc hint hnil
    go_upto_region 3 with fail
    refine wp_region_held_drew (S := (fun w' => w'.cell? ⟨w.heap.size, 0, none⟩ = some (.slice (some ⟨b, off, none⟩) h.objs.length c) ∧ w'.cell? ⟨w.heap.size, 1, none⟩ = some (.int .i64 h.cap) ∧ w'.cell? ⟨w.heap.size, 2, none⟩ = some (.int .i64 h.last) ∧ w'.cell? ⟨b, off + i * 6 + 2, none⟩ = some (.slice S (obAt h v).slots.length d))) (by kernel_rfl) ?_ (fun hH0 => ?_)
    · exact ⟨x0, x1, x2, y2⟩
    refine tkI 0 ⟨some 9, .fieldAddr 24 (.tmp 2) 0, 0, "ref.go:22", #[], none⟩ ?v1 rfl (by kernel_rfl) (by rfl) ?y1 ?_
    case y1 => intro w hSw; (try dsimp only at hSw); go_simp; all_goals with_reducible rfl
    try simp only [apt12]
    refine tkI 1 ⟨some 10, .load 22 (.tmp 9), 22, "ref.go:22", #[⟨0, .data⟩], none⟩ ?v2 rfl (by kernel_rfl) (by rfl) ?y2 ?_
    case y2 => intro w hSw; (try dsimp only at hSw); go_simp; all_goals with_reducible rfl
    try simp only [apt12]
    refine tkI 2 ⟨some 11, .load 24 (.tmp 2), 24, "ref.go:22", #[], none⟩ ?v3 rfl (by kernel_rfl) (by rfl) ?y3 ?_
    case y3 => intro w hSw; (try dsimp only at hSw); go_simp; all_goals with_reducible rfl
    try simp only [apt12]
    refine tkI 3 ⟨some 12, .move (.tmp 1), 3, "ref.go:22", #[], none⟩ ?v4 rfl (by kernel_rfl) (by rfl) ?y4 ?_
    case y4 => intro w hSw; (try dsimp only at hSw); go_simp; all_goals with_reducible rfl
    try simp only [apt12]
    refine wpAnyH_ready (rs := [4]) (by kernel_rfl) (by simp) ?_
    refine AllReadyH.cons (i := 4) (o := ⟨some 13, .call { callee := .value (.func 40), args := #[.tmp 11, .tmp 12], argTypes := #[24, 3] }, 3, "ref.go:22", #[⟨2, .data⟩, ⟨3, .data⟩], none⟩) rfl (fun K hK => ?_) AllReadyH.nil
    go_simp
    go_at_call 40
    refine (rref_any h v _ c _).mono ?_
    rintro e u1 ⟨rfl, hb⟩
    rw [HI.out]
    have HV1 := hid (then_w (Below.refl w1.heap.size w1).drew hb)
    refine hK.out _ _ ?_ (fun hH1 => ?_)
    · exact ⟨cell_later hb hH0.1, cell_later hb hH0.2.1, cell_later hb hH0.2.2.1, cell_later hb hH0.2.2.2⟩
    clear hK K
    try simp only [apt12]
    clear hb
    refine tkI 5 ⟨some 14, .indexAddr 22 (.tmp 10) (.tmp 13), 0, "ref.go:22", #[⟨1, .data⟩, ⟨4, .data⟩], none⟩ ?v5 rfl (by kernel_rfl) (by rfl) ?y5 ?_
    case y5 => intro w hSw; (try dsimp only at hSw); go_simp; all_goals with_reducible rfl
    try simp only [apt12]
    refine tkI 6 ⟨some 15, .fieldAddr 60 (.tmp 14) 2, 0, "ref.go:22", #[⟨5, .data⟩], none⟩ ?v6 rfl (by kernel_rfl) (by rfl) ?y6 ?_
    case y6 => intro w hSw; (try dsimp only at hSw); go_simp; all_goals with_reducible rfl
    try simp only [apt12]
    refine tkI 7 ⟨some 16, .load 30 (.tmp 15), 30, "ref.go:22", #[⟨6, .data⟩], none⟩ ?v7 rfl (by kernel_rfl) (by rfl) ?y7 ?_
    case y7 => intro w hSw; (try dsimp only at hSw); go_simp; all_goals with_reducible rfl
    try simp only [apt12]
    refine tkI 8 ⟨some 4, .assign (.tmp 16), 30, "ref.go:22", #[⟨7, .data⟩, ⟨4, .chain⟩, ⟨0, .phase⟩, ⟨1, .phase⟩, ⟨2, .phase⟩, ⟨3, .phase⟩, ⟨4, .phase⟩, ⟨5, .phase⟩, ⟨6, .phase⟩, ⟨7, .phase⟩], none⟩ ?v8 rfl (by kernel_rfl) (by rfl) ?y8 ?_
    case y8 => intro w hSw; (try dsimp only at hSw); go_simp; all_goals with_reducible rfl
    try simp only [apt12]
    refine wpAnyH_done (by kernel_rfl) ?_ _
    go_wp2_with fail
    go_ret
    exact ⟨S, d, by rw [EL.out]; rfl, by rw [EL.out]; exact HIN.out.below HV1.out, HNL.out, then_w HB1.out HV1.out⟩
end Go.Proofs.YtalfbdigjaibkaaGreat
namespace Go.Proofs.YtalfbdigjaibkaaGreat
open Go.RowKit
set_option maxRecDepth 100000
theorem int_info12 : (Tryz.prog.info? 3).map (fun i => (i.zero, i.size, i.bytes)) = some (some (.int .i64 0), 1, 8) := by kernel_rfl
theorem ints_none12 {w : World} {S : Option Addr} {xs : List Int} (h : IntsR w S xs) (e : S = none) : xs = [] := by
  cases xs with
  | nil => rfl
  | cons x xs => obtain ⟨b, o, e2, _⟩ := h (by simp); rw [e] at e2; cases e2
theorem grown_refl12 (w : World) (r : Option Nat) : w.grownBy w r := ⟨rfl, rfl, rfl, Nat.le_refl _, fun _ _ _ => rfl⟩
/-- an append of a list of ints, run -/
theorem run_app_ints12 (w : World) (base : Nat) (v : Value) (n : Nat) (ys : List Int) (hown : w.ownsRow base 3 1 v n (ys.map (Value.int .i64))) (S : Option Addr) (c : Nat) (xs : List Int) (hr : IntsR w S xs) (hn : S = none → c = 0)
    (h63 : n + xs.length ≤ 1000000) (hbase : base ≤ w.heap.size) :
    ∃ v' w', (Builtin.append_ #[30, 30] 30 #[v, .slice S xs.length c]).run Tryz.prog w = .ok v' w' ∧ w'.ownsRow base 3 1 v' (n + xs.length) ((ys ++ xs).map (Value.int .i64)) ∧ w.grownBy w' v.ownBlock := by
  obtain ⟨i0, hi0, hz0, hz1, hz2⟩ := info_parts int_info12
  cases S with
  | none =>
    have hx0 := ints_none12 hr rfl
    subst hx0
    refine ⟨v, w, ?_, by simpa using hown, grown_refl12 _ _⟩
    rw [hn rfl]
    exact run_append_owned_none (P := Tryz.prog) (w := w) base 30 30 3 i0 1 Tryz.underlying30 hi0 v n _ hown
  | some ad =>
    obtain ⟨v', w', h1, h2, h3, -⟩ := run_append_own (P := Tryz.prog) w base 30 30 3 i0 (.int .i64 0) 1 8 Tryz.underlying30 hi0 hz0 hz1 hz2 rfl (by decide) v n _ hown ad xs.length c (xs.map (Value.int .i64)) (by simp) (by
      intro j u hj
      have hjn : j < xs.length := by have := (List.getElem?_eq_some_iff.1 hj).1; simpa using this
      obtain ⟨b, o, e, hlt, hc⟩ := hr (by omega)
      cases e
      have := hc j xs[j] (List.getElem?_eq_getElem hjn)
      rw [List.getElem?_map, List.getElem?_eq_getElem hjn] at hj
      cases hj
      rw [Addr.add_lit]
      exact this) (by intro u hu; obtain ⟨x, _, rfl⟩ := List.mem_map.1 hu; rfl) (by unfold maxLen; omega) (by omega) hbase
    exact ⟨v', w', h1, by simpa using h2, h3⟩
theorem own_nil12 (w : World) : (w.alloc (.cells #[] 3)).ownsRow w.heap.size 3 1 (.slice (some ⟨w.heap.size, 0, none⟩) 0 0) 0 (([] : List Int).map (Value.int .i64)) :=
  ⟨rfl, .inr ⟨w.heap.size, 0, #[], rfl, Nat.le_refl _, by show (w.heap.push _)[w.heap.size]? = _; simp, Nat.le_refl _, by unfold maxLen; omega, rfl, rfl⟩⟩
theorem grown_set12 (w : World) (p : Addr) (u : Value) : w.grownBy (w.setCell p u) (some p.block) :=
  ⟨rfl, rfl, rfl, by simp, fun k _ hk => Below.heap_setCell w p u k (fun e => hk (by rw [e]))⟩
/-- five cells of another block are written -/
theorem own_five12 {w : World} {base n bx : Nat} {v : Value} {xs : List Value} {t : TypeId} {cs : Array Value} (h : w.ownsRow base 3 1 v n xs) (hl : Lies w bx t cs) (ht : 3 ≠ t) (a0 a1 a2 a3 a4 : Value) :
    (((((w.setCell ⟨bx, 0, none⟩ a0).setCell ⟨bx, 1, none⟩ a1).setCell ⟨bx, 2, none⟩ a2).setCell ⟨bx, 3, none⟩ a3).setCell ⟨bx, 4, none⟩ a4).ownsRow base 3 1 v n xs := by
  have h0 := h.kept (grown_set12 w ⟨bx, 0, none⟩ a0) (.inr (own_blk_ne h hl ht))
  have l0 := hl.set_ 0 a0
  have h1 := h0.kept (grown_set12 _ ⟨bx, 1, none⟩ a1) (.inr (own_blk_ne h0 l0 ht))
  have l1 := l0.set_ 1 a1
  have h2 := h1.kept (grown_set12 _ ⟨bx, 2, none⟩ a2) (.inr (own_blk_ne h1 l1 ht))
  have l2 := l1.set_ 2 a2
  have h3 := h2.kept (grown_set12 _ ⟨bx, 3, none⟩ a3) (.inr (own_blk_ne h2 l2 ht))
  have l3 := l2.set_ 3 a3
  exact h3.kept (grown_set12 _ ⟨bx, 4, none⟩ a4) (.inr (own_blk_ne h3 l3 ht))
theorem below_five12 {w u : World} {B bx : Nat} (h : Below B w u) (hb : B ≤ bx) (a0 a1 a2 a3 a4 : Value) :
    Below B w (((((u.setCell ⟨bx, 0, none⟩ a0).setCell ⟨bx, 1, none⟩ a1).setCell ⟨bx, 2, none⟩ a2).setCell ⟨bx, 3, none⟩ a3).setCell ⟨bx, 4, none⟩ a4) :=
  ((((h.setCell (p := ⟨bx, 0, none⟩) hb a0).setCell (p := ⟨bx, 1, none⟩) hb a1).setCell (p := ⟨bx, 2, none⟩) hb a2).setCell (p := ⟨bx, 3, none⟩) hb a3).setCell (p := ⟨bx, 4, none⟩) hb a4
end Go.Proofs.YtalfbdigjaibkaaGreat
namespace Go.Proofs.YtalfbdigjaibkaaGreat
open Go.RowKit
set_option maxRecDepth 100000
def UpN12 (w : World) (b : List UInt8) (e : Ending) (w' : World) : Prop := ∃ A c, e = .returned (.tuple #[.slice A (Up11 b).1.length c, .int .i64 (Up11 b).2]) ∧ InsR w' A (Up11 b).1 ∧ Below w.heap.size w w' ∧ ∀ k o s, A = some ⟨k, o, s⟩ → w.heap.size ≤ k
set_option maxHeartbeats 1000000 in
theorem unpack_new12 (b : List UInt8) (w : World) (hb : b.length ≤ 1000) : Calls Tryz.prog 39 #[.string (str b)] w (UpN12 w b) := by
  have hsz := str_size b
  have hs1 : (str b).size ≤ 1000 := by omega
  have HB0 := hid (below_alloc w (.cells #[] 37))
  have HO0 : Hid ((w.alloc (.cells #[] 37)).ownsRow w.heap.size 37 2 (.slice (some ⟨w.heap.size, 0, none⟩) 0 0) ([] : List In).length (([] : List In).flatMap in211)) := own_empty11 w
  have HLEN := hid hsz
  clear hsz
  go_enter Tryz.func39, Tryz.ntmps39
  go_wp2_with fail
  go_loopw [4, 5] (fun v i wr => ∃ (m : Nat), 2 * m ≤ b.length + 1 ∧ i = .int .i64 ((2 * m : Nat) : Int) ∧ wr.ownsRow w.heap.size 37 2 v ((us11 b).take m).length (((us11 b).take m).flatMap in211) ∧ Below w.heap.size w wr) (fun _ i _ => b.length + 3 - (intOf i).toNat)
  case atStart => exact ⟨0, by omega, rfl, HO0.out, HB0.out⟩
  case round =>
    rename World => w50
    rename Value => v50
    obtain ⟨m, hml, rfl, ho, hb50⟩ := hrel
    have HO := hid ho
    have HB := hid hb50
    clear ho hb50
    obtain ⟨i, hi⟩ : ∃ i : Nat, i = 2 * m := ⟨_, rfl⟩
    rw [← hi]
    have HI := hid hi
    have hib : i ≤ b.length + 1 := by omega
    have hjw : IntKind.i64.wrap ((i : Int) + 1) = (i : Int) + 1 := IntWalk.i64_in _ ⟨by omega, by omega⟩
    have hjw2 : IntKind.i64.wrap ((i : Int) + 2) = (i : Int) + 2 := IntWalk.i64_in _ ⟨by omega, by omega⟩
    have hi0 : (0 : Int) ≤ (i : Int) := by omega
    have hi1 : (0 : Int) ≤ (i : Int) + 1 := by omega
    clear hi
    by_cases hj : i + 1 < b.length
    · have hjI : (i : Int) + 1 < ((str b).size : Int) := by have := HLEN.out; omega
      have hjI2 : (i : Int) < ((str b).size : Int) := by have := HLEN.out; omega
      have hjs : i < (str b).size := by have := HLEN.out; omega
      have hjs1 : i + 1 < (str b).size := by have := HLEN.out; omega
      have hj0 : i < b.length := by omega
      obtain ⟨x, hx⟩ : ∃ x : Int, x = ((b[i]'hj0).toNat : Int) := ⟨_, rfl⟩
      obtain ⟨y, hy⟩ : ∃ y : Int, y = ((b[i + 1]'hj).toNat : Int) := ⟨_, rfl⟩
      have e1 : (((str b)[i]'hjs).toNat : Int) = x := (congrArg (fun b : UInt8 => (b.toNat : Int)) (str_at b i hjs hj0)).trans hx.symm
      have e2 : (((str b)[i + 1]'hjs1).toNat : Int) = y := (congrArg (fun b : UInt8 => (b.toNat : Int)) (str_at b (i + 1) hjs1 hj)).trans hy.symm
      have hx0 : 0 ≤ x ∧ x ≤ 255 := by have := UInt8.toNat_lt (b[i]'hj0); omega
      have hy0 : 0 ≤ y ∧ y ≤ 255 := by have := UInt8.toNat_lt (b[i + 1]'hj); omega
      have wx : IntKind.i64.wrap x = x := IntWalk.i64_in _ ⟨by omega, by omega⟩
      have wy : IntKind.i64.wrap y = y := IntWalk.i64_in _ ⟨by omega, by omega⟩
      have HT : Hid ((us11 b).take (m + 1) = (us11 b).take m ++ [⟨x, y⟩]) := by
        show _ = _
        have h1 := HI.out
        subst h1
        have h2 := us_at11 b m (by omega)
        obtain ⟨h3, h4⟩ := List.getElem?_eq_some_iff.1 h2
        rw [List.take_succ_eq_append_getElem h3, h4, hx, hy]
      have HTL : Hid (((us11 b).take m).length ≤ 1000) := by
        show _ ≤ _
        rw [List.length_take, us_len11]; omega
      clear hx hy hx0 hy0
      go_upto_region 5 with fail
      refine wp_region_held_drew (S := (fun _ => True)) (by kernel_rfl) ?_ (fun hH0 => ?_)
      · exact trivial
      refine tkI 0 ⟨some 16, .move (.tmp 4), 29, "ref.go:81", #[], none⟩ ?v16 rfl (by kernel_rfl) (by rfl) ?y16 ?_
      case y16 => intro w hSw; (try dsimp only at hSw); go_simp; all_goals with_reducible rfl
      try simp only [apt12]
      refine tkI 1 ⟨some 17, .move (.tmp 0), 9, "ref.go:81", #[], none⟩ ?v17 rfl (by kernel_rfl) (by rfl) ?y17 ?_
      case y17 => intro w hSw; (try dsimp only at hSw); go_simp; all_goals with_reducible rfl
      try simp only [apt12]
      refine tkI 2 ⟨some 18, .move (.tmp 5), 3, "ref.go:81", #[], none⟩ ?v18 rfl (by kernel_rfl) (by rfl) ?y18 ?_
      case y18 => intro w hSw; (try dsimp only at hSw); go_simp; all_goals with_reducible rfl
      try simp only [apt12]
      refine tkI 3 ⟨some 19, .index 9 (.tmp 17) (.tmp 18), 5, "ref.go:81", #[⟨1, .data⟩, ⟨2, .data⟩], none⟩ ?v19 rfl (by kernel_rfl) (by rfl) ?y19 ?_
      case y19 => intro w hSw; (try dsimp only at hSw); go_simp; all_goals with_reducible rfl
      try simp only [apt12]
      refine tkI 4 ⟨some 20, .convert 5 3 (.tmp 19), 3, "ref.go:81", #[⟨3, .data⟩], none⟩ ?v20 rfl (by kernel_rfl) (by rfl) ?y20 ?_
      case y20 => intro w hSw; (try dsimp only at hSw); go_simp; all_goals with_reducible rfl
      try simp only [apt12]
      refine tkI 5 ⟨some 21, .move (.tmp 0), 9, "ref.go:81", #[], none⟩ ?v21 rfl (by kernel_rfl) (by rfl) ?y21 ?_
      case y21 => intro w hSw; (try dsimp only at hSw); go_simp; all_goals with_reducible rfl
      try simp only [apt12]
      refine tkI 6 ⟨some 22, .move (.tmp 5), 3, "ref.go:81", #[], none⟩ ?v22 rfl (by kernel_rfl) (by rfl) ?y22 ?_
      case y22 => intro w hSw; (try dsimp only at hSw); go_simp; all_goals with_reducible rfl
      try simp only [apt12]
      refine tkI 7 ⟨some 23, .binOp .add 3 (.tmp 22) (.const (Go.Value.int .i64 1)) 3, 3, "ref.go:81", #[⟨6, .data⟩], none⟩ ?v23 rfl (by kernel_rfl) (by rfl) ?y23 ?_
      case y23 => intro w hSw; (try dsimp only at hSw); go_simp; all_goals with_reducible rfl
      try simp only [apt12]
      refine tkI 8 ⟨some 24, .index 9 (.tmp 21) (.tmp 23), 5, "ref.go:81", #[⟨5, .data⟩, ⟨7, .data⟩], none⟩ ?v24 rfl (by kernel_rfl) (by rfl) ?y24 ?_
      case y24 => intro w hSw; (try dsimp only at hSw); go_simp; all_goals with_reducible rfl
      try simp only [apt12]
      refine tkI 9 ⟨some 25, .convert 5 3 (.tmp 24), 3, "ref.go:81", #[⟨8, .data⟩], none⟩ ?v25 rfl (by kernel_rfl) (by rfl) ?y25 ?_
      case y25 => intro w hSw; (try dsimp only at hSw); go_simp; all_goals with_reducible rfl
      try simp only [apt12]
      refine tkI 10 ⟨some 26, .build 37 #[(0, .tmp 20), (1, .tmp 25)], 37, "ref.go:81", #[⟨4, .data⟩, ⟨9, .data⟩], none⟩ ?v26 rfl (by kernel_rfl) (by rfl) ?y26 ?_
      case y26 => intro w hSw; (try dsimp only at hSw); go_simp; all_goals with_reducible rfl
      try simp only [apt12]
      refine wpAnyH_ready (rs := [11]) (by kernel_rfl) (by simp) ?_
      refine AllReadyH.cons (i := 11) (o := ⟨some 27, .buildSlice 29 1 #[(0, .tmp 26)], 29, "ref.go:81", #[⟨10, .data⟩], none⟩) rfl (fun K hK => ?_) AllReadyH.nil
      go_simp
      refine hK.out _ _ ?_ (fun hH1 => ?_)
      · exact trivial
      clear hK K
      try simp only [apt12]
      refine wpAnyH_ready (rs := [12]) (by kernel_rfl) (by simp) ?_
      refine AllReadyH.cons (i := 12) (o := ⟨some 28, .call { callee := .builtin .append, args := #[.tmp 16, .tmp 27], argTypes := #[29, 29] }, 29, "ref.go:81", #[⟨0, .data⟩, ⟨11, .data⟩], none⟩) rfl (fun K hK => ?_) AllReadyH.nil
      obtain ⟨v2, w2, hr, ho2, hb2⟩ := own_app11 (w0 := w) (own_later HO.out ((below_alloc w50 (.cells #[.int .i64 x, .int .i64 y] 37)).drew)) ⟨x, y⟩ w50.heap.size ((Lies.new w50 37 #[.int .i64 x, .int .i64 y]).drew) (by have := HTL.out; omega) (then_w HB.out ((below_alloc w50 (.cells #[.int .i64 x, .int .i64 y] 37)).drew))
      rw [← HT.out] at ho2
      refine wp_append_run11 _ _ 29 rfl v2 w2 hr ?_
      refine hK.out _ _ ?_ (fun hH2 => ?_)
      · exact trivial
      clear hK K
      try simp only [apt12]
      refine tkI 13 ⟨some 4, .assign (.tmp 28), 29, "ref.go:81", #[⟨12, .data⟩, ⟨12, .chain⟩, ⟨0, .phase⟩, ⟨1, .phase⟩, ⟨2, .phase⟩, ⟨3, .phase⟩, ⟨4, .phase⟩, ⟨5, .phase⟩, ⟨6, .phase⟩, ⟨7, .phase⟩, ⟨8, .phase⟩, ⟨9, .phase⟩, ⟨10, .phase⟩, ⟨11, .phase⟩, ⟨12, .phase⟩], none⟩ ?v27 rfl (by kernel_rfl) (by rfl) ?y27 ?_
      case y27 => intro w hSw; (try dsimp only at hSw); go_simp; all_goals with_reducible rfl
      try simp only [apt12]
      refine wpAnyH_done (by kernel_rfl) ?_ _
      go_wp2_with fail
      go_roundw
      case rel => exact ⟨m + 1, by have := HI.out; omega, by have h := HI.out; first | (congr 1; omega) | (simp; omega), ho2, hb2⟩
      case measure => simp only [intOf]; omega
    · have hjI : ¬ (i : Int) + 1 < ((str b).size : Int) := by have := HLEN.out; omega
      have HE : Hid ((us11 b).take m = us11 b) := by
        show _ = _
        rw [List.take_of_length_le]
        rw [us_len11]; have := HI.out; omega
      have ho := HO.out
      rw [HE.out] at ho
      obtain ⟨A, c, hv, hins, hnil⟩ := own_ins11 ho
      subst hv
      have HFR : Hid (∀ k o s, A = some ⟨k, o, s⟩ → w.heap.size ≤ k) := fun k o s e => by subst e; exact (ho.lt k rfl).1
      have HINS := hid hins
      have HUL : Hid ((us11 b).length ≤ 1000) := by show _ ≤ _; rw [us_len11]; omega
      clear ho hins hnil HO
      go_wp2_with fail
      refine (pack_any11 (us11 b) A c _ HINS.out HUL.out).mono ?_
      rintro e w51 ⟨rfl, hb2⟩
      have HB2 := hid (then_w HB.out hb2)
      have HIN2 := hid (HINS.out.below hb2)
      clear hb2
      cases ha : all11 (us11 b)
      · have HPK : Hid (Pk11 (us11 b) = ([], 110)) := by show _ = _; unfold Pk11; rw [ha]; rfl
        have HUP : Hid (Up11 b = ([], 110)) := by show _ = _; unfold Up11; rw [ha]; rfl
        rw [HPK.out]
        clear ha
        go_wp2_with fail
        go_ret2
        exact ⟨none, 0, by rw [HUP.out]; rfl, by rw [HUP.out]; exact fun h => absurd h (by decide), HB2.out, fun _ _ _ e => by cases e⟩
      · have HPK : Hid (Pk11 (us11 b) = (pk11 (us11 b), 0)) := by show _ = _; unfold Pk11; rw [if_pos ha]
        rw [HPK.out]
        by_cases hs : pk11 (us11 b) = b
        · have HUP : Hid (Up11 b = (us11 b, 0)) := by show _ = _; unfold Up11; rw [ha, decide_eq_true hs]; rfl
          have HSS : Hid (str (pk11 (us11 b)) = str b) := by show _ = _; rw [hs]
          rw [HSS.out]
          clear ha hs
          go_wp2_with fail
          go_ret2
          exact ⟨A, c, by rw [HUP.out]; rfl, by rw [HUP.out]; exact HIN2.out, HB2.out, HFR.out⟩
        · have HUP : Hid (Up11 b = ([], 110)) := by show _ = _; unfold Up11; rw [decide_eq_false hs]; simp
          have hss : ¬ str (pk11 (us11 b)) = str b := fun e => hs (by have := congrArg (fun s : ByteArray => s.data.toList) e; simpa [list_str] using this)
          have hssL : ¬ (str (pk11 (us11 b))).toList = (str b).toList := fun e => hss (txt_inj11 e)
          have hssB : ((str (pk11 (us11 b))).toList == (str b).toList) = false := beq_eq_false_iff_ne.2 hssL
          obtain ⟨q, hq⟩ : ∃ q, q = str (pk11 (us11 b)) := ⟨_, rfl⟩
          rw [← hq] at hss hssL hssB ⊢
          clear ha hs hq
          go_wp2_with fail
          go_ret2
          exact ⟨none, 0, by rw [HUP.out]; rfl, by rw [HUP.out]; exact fun h => absurd h (by decide), HB2.out, fun _ _ _ e => by cases e⟩
end Go.Proofs.YtalfbdigjaibkaaGreat
namespace Go.Proofs.YtalfbdigjaibkaaGreat
open Go.RowKit
set_option maxRecDepth 100000
def five12 (w : World) (bx : Nat) (a0 a1 a2 a3 a4 : Value) : World := ((((w.setCell ⟨bx, 0, none⟩ a0).setCell ⟨bx, 1, none⟩ a1).setCell ⟨bx, 2, none⟩ a2).setCell ⟨bx, 3, none⟩ a3).setCell ⟨bx, 4, none⟩ a4
theorem cell_five12 {w : World} {bx k o : Nat} {v : Value} (h : w.cell? ⟨k, o, none⟩ = some v) (hne : k ≠ bx) (a0 a1 a2 a3 a4 : Value) : (five12 w bx a0 a1 a2 a3 a4).cell? ⟨k, o, none⟩ = some v := by
  have one : ∀ {w : World} (j : Nat) (u : Value), w.cell? ⟨k, o, none⟩ = some v → (w.setCell ⟨bx, j, none⟩ u).cell? ⟨k, o, none⟩ = some v := fun j u h =>
    (World.cell?_setCell_other _ _ _ _ (by intro e; injection e with e1; exact hne e1.symm)).trans h
  exact one 4 a4 (one 3 a3 (one 2 a2 (one 1 a1 (one 0 a0 h))))
theorem size_five12 (w : World) (bx : Nat) (a0 a1 a2 a3 a4 : Value) : (five12 w bx a0 a1 a2 a3 a4).heap.size = w.heap.size := by simp [five12]
theorem ins_five12 {w : World} {A : Option Addr} {l : List In} (h : InsR w A l) {bx : Nat} (hne : ∀ k o s, A = some ⟨k, o, s⟩ → k ≠ bx) (a0 a1 a2 a3 a4 : Value) : InsR (five12 w bx a0 a1 a2 a3 a4) A l := fun hn => by
  obtain ⟨b, off, rfl, hlt, hc⟩ := h hn
  refine ⟨b, off, rfl, by rw [size_five12]; exact hlt, fun i x hx => ?_⟩
  obtain ⟨h0, h1⟩ := hc i x hx
  exact ⟨cell_five12 h0 (hne b off none rfl) _ _ _ _ _, cell_five12 h1 (hne b off none rfl) _ _ _ _ _⟩
theorem ints_five12 {w : World} {A : Option Addr} {l : List Int} (h : IntsR w A l) {bx : Nat} (hne : ∀ k o s, A = some ⟨k, o, s⟩ → k ≠ bx) (a0 a1 a2 a3 a4 : Value) : IntsR (five12 w bx a0 a1 a2 a3 a4) A l := fun hn => by
  obtain ⟨b, off, rfl, hlt, hc⟩ := h hn
  exact ⟨b, off, rfl, by rw [size_five12]; exact hlt, fun j x hx => cell_five12 (hc j x hx) (hne b off none rfl) _ _ _ _ _⟩
theorem up_len12 (b : List UInt8) : (Up11 b).1.length ≤ 32 := by
  by_cases z : (Up11 b).2 = 0
  · exact all_len11 (up_some11 z).1
  · rw [up_none11 z]; decide
theorem lies_five12 {w : World} {bx : Nat} {t : TypeId} {c0 c1 c2 c3 c4 : Value} (h : Lies w bx t #[c0, c1, c2, c3, c4]) (a0 a1 a2 a3 a4 : Value) :
    Lies (((((w.setCell ⟨bx, 0, none⟩ a0).setCell ⟨bx, 1, none⟩ a1).setCell ⟨bx, 2, none⟩ a2).setCell ⟨bx, 3, none⟩ a3).setCell ⟨bx, 4, none⟩ a4) bx t #[a0, a1, a2, a3, a4] :=
  ((((h.set_ 0 a0).set_ 1 a1).set_ 2 a2).set_ 3 a3).set_ 4 a4
theorem cells_five12 {w : World} {bx : Nat} {t : TypeId} {c0 c1 c2 c3 c4 : Value} (h : Lies w bx t #[c0, c1, c2, c3, c4]) :
    w.cell? ⟨bx, 0, none⟩ = some c0 ∧ w.cell? ⟨bx, 1, none⟩ = some c1 ∧ w.cell? ⟨bx, 2, none⟩ = some c2 ∧ w.cell? ⟨bx, 3, none⟩ = some c3 ∧ w.cell? ⟨bx, 4, none⟩ = some c4 ∧
    w.frozen? ⟨bx, 0, none⟩ = false ∧ w.frozen? ⟨bx, 1, none⟩ = false ∧ w.frozen? ⟨bx, 2, none⟩ = false ∧ w.frozen? ⟨bx, 3, none⟩ = false ∧ w.frozen? ⟨bx, 4, none⟩ = false :=
  ⟨h.cell 0, h.cell 1, h.cell 2, h.cell 3, h.cell 4, h.frozen 0, h.frozen 1, h.frozen 2, h.frozen 3, h.frozen 4⟩
end Go.Proofs.YtalfbdigjaibkaaGreat
