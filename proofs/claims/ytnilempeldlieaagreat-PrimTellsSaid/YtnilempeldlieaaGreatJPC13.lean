/- The small functions of package prim: numbers, refs, stops. What a primitive stands on, and what it comes to, as contracts. -/
import Derived.Test.YtnilempeldlieaaGreatJ10
import Derived.Test.YtnilempeldlieaaGreatJ06
namespace Go.Proofs.YtnilempeldlieaaGreat
open Go.RowKit
set_option maxRecDepth 100000
def stop13 (en : Int) : List PanicEntry := [{ v := .iface 25 (.int .i64 en), recovered := false }]
theorem nat_or1 (m : Nat) (h : m % 2 = 0) : m ||| 1 = m + 1 := by
  have := Nat.two_pow_add_eq_or_of_lt (i := 1) (b := 1) (by decide) (m / 2)
  have e : 2 ^ 1 * (m / 2) = m := by omega
  rw [e] at this
  exact this.symm
theorem or1 (n : Int) (h : n % 2 = 0) (h1 : -9223372036854775808 ≤ n) (h2 : n ≤ 9223372036854775806) : bits .or .i64 n 1 = n + 1 := by
  have e1 : (BitVec.ofInt 64 1).toNat = 1 := by decide
  have key : (BitVec.ofInt 64 n ||| BitVec.ofInt 64 1).toNat = (n % ((2 ^ 64 : Nat) : Int)).toNat + 1 := by
    rw [BitVec.toNat_or, BitVec.toNat_ofInt, e1, nat_or1]
    omega
  show IntKind.i64.wrap ((BitVec.ofInt 64 n ||| BitVec.ofInt 64 1).toNat : Nat) = n + 1
  rw [key, IntKind.wrap_i64]
  omega
theorem int_any13 (n : Int) (w : World) : Calls Tryz.prog 209 #[.int .i64 n] w fun e w' => e = .returned (.tuple #[.int .i64 (if smB n then 2 * n + 1 else 0), .bool (smB n)]) ∧ w = w' := by
  cases h : smB n
  · go_enter Tryz.func209, Tryz.ntmps209
    go_wp2_with (go_at_call 206; refine (small_any _ _).mono ?_; rintro e w' ⟨rfl, rfl⟩)
    go_ret2; exact ⟨rfl, rfl⟩
  · have hb := smB_iff.1 h
    have e : 2 * n + 1 = bits .or .i64 (n * 2) 1 := by rw [or1 _ (by omega) (by omega) (by omega)]; omega
    rw [if_pos rfl, e]; clear e
    have h1 := hb.1
    have h2 := hb.2
    clear hb
    go_enter Tryz.func209, Tryz.ntmps209
    go_wp2_with (go_at_call 206; refine (small_any _ _).mono ?_; rintro e w' ⟨rfl, rfl⟩)
    go_ret2; exact ⟨rfl, rfl⟩
theorem fail_any13 (w : World) : Calls Tryz.prog 74 #[] w fun e w' => e = .panicked (stop13 130) ∧ w = w' := by
  go_enter Tryz.func74, Tryz.ntmps74
  go_wp2
  exact ⟨rfl, rfl, rfl⟩
def go13 (en : Int) : Int := if en = 0 then 0 else if en = 30 then 30 else 130
theorem goon_ok13 (w : World) : Calls Tryz.prog 211 #[.int .i64 0] w fun e w' => e = .returned (.tuple #[]) ∧ w = w' := by
  go_enter Tryz.func211, Tryz.ntmps211
  go_wp2
  exact ⟨rfl, .tuple #[], by simp [results, Tryz.results211], rfl, rfl⟩
theorem goon_no13 {en : Int} (h : en ≠ 0) (w : World) : Calls Tryz.prog 211 #[.int .i64 en] w fun e w' => e = .panicked (stop13 (go13 en)) ∧ w = w' := by
  by_cases h30 : en = 30
  · subst h30
    go_enter Tryz.func211, Tryz.ntmps211
    go_wp2
    exact ⟨rfl, rfl, rfl⟩
  · have e : go13 en = 130 := by unfold go13; rw [if_neg h, if_neg h30]
    rw [e]
    clear e
    go_enter Tryz.func211, Tryz.ntmps211
    go_wp2_with (go_at_call 74; refine (fail_any13 _).mono ?_; rintro e w' ⟨rfl, rfl⟩)
    exact ⟨rfl, rfl, rfl⟩
theorem checked_ok13 (v : Int) (w : World) : Calls Tryz.prog 180 #[.int .i64 v, .int .i64 0] w fun e w' => e = .returned (.int .i64 v) ∧ w = w' := by
  go_enter Tryz.func180, Tryz.ntmps180
  go_wp2_with (go_at_call 211; refine (goon_ok13 _).mono ?_; rintro e w' ⟨rfl, rfl⟩)
  go_ret
  exact ⟨rfl, rfl⟩
theorem checked_no13 (v : Int) {en : Int} (h : en ≠ 0) (w : World) : Calls Tryz.prog 180 #[.int .i64 v, .int .i64 en] w fun e w' => e = .panicked (stop13 (go13 en)) ∧ w = w' := by
  go_enter Tryz.func180, Tryz.ntmps180
  go_wp2_with (go_at_call 211; refine (goon_no13 h _).mono ?_; rintro e w' ⟨rfl, rfl⟩)
  exact ⟨rfl, rfl, rfl⟩
theorem num_ok13 {v : Int} (h : nB v = true) (w : World) : Calls Tryz.prog 178 #[.int .i64 v] w fun e w' => e = .returned (.int .i64 (nV v)) ∧ w = w' := by
  go_enter Tryz.func178, Tryz.ntmps178
  go_wp2_with (go_at_call 164; refine (n_any _ _).mono ?_; rintro e w' ⟨rfl, rfl⟩)
  go_ret
  exact ⟨rfl, rfl⟩
theorem num_no13 {v : Int} (h : nB v = false) (w : World) : Calls Tryz.prog 178 #[.int .i64 v] w fun e w' => e = .panicked (stop13 130) ∧ w = w' := by
  go_enter Tryz.func178, Tryz.ntmps178
  go_wp2_with (first | (go_at_call 164; refine (n_any _ _).mono ?_; rintro e w' ⟨rfl, rfl⟩) | (go_at_call 74; refine (fail_any13 _).mono ?_; rintro e w' ⟨rfl, rfl⟩))
  exact ⟨rfl, rfl, rfl⟩
theorem place_ok13 {v : Int} (h : nB v = true) (w : World) : Calls Tryz.prog 182 #[.int .i64 v] w fun e w' => e = .returned (.int .i64 (nV v - 1)) ∧ w = w' := by
  have hb : -1073741824 ≤ nV v ∧ nV v ≤ 1073741823 := by have := nB_iff.1 h; unfold nV; rw [if_pos h]; omega
  have h1 := hb.1
  have h2 := hb.2
  clear hb
  go_enter Tryz.func182, Tryz.ntmps182
  go_wp2_with (go_at_call 178; refine (num_ok13 h _).mono ?_; rintro e w' ⟨rfl, rfl⟩)
  go_ret
  exact ⟨rfl, rfl⟩
theorem place_no13 {v : Int} (h : nB v = false) (w : World) : Calls Tryz.prog 182 #[.int .i64 v] w fun e w' => e = .panicked (stop13 130) ∧ w = w' := by
  go_enter Tryz.func182, Tryz.ntmps182
  go_wp2_with (go_at_call 178; refine (num_no13 h _).mono ?_; rintro e w' ⟨rfl, rfl⟩)
  exact ⟨rfl, rfl, rfl⟩
theorem at_ok13 {v : Int} (h : atB v = true) (w : World) : Calls Tryz.prog 190 #[.int .i64 v] w fun e w' => e = .returned (.int .i64 (atV v)) ∧ w = w' := by
  go_enter Tryz.func190, Tryz.ntmps190
  go_wp2_with (go_at_call 110; refine (at_any _ _).mono ?_; rintro e w' ⟨rfl, rfl⟩)
  go_ret
  exact ⟨rfl, rfl⟩
theorem at_no13 {v : Int} (h : atB v = false) (w : World) : Calls Tryz.prog 190 #[.int .i64 v] w fun e w' => e = .panicked (stop13 130) ∧ w = w' := by
  go_enter Tryz.func190, Tryz.ntmps190
  go_wp2_with (first | (go_at_call 110; refine (at_any _ _).mono ?_; rintro e w' ⟨rfl, rfl⟩) | (go_at_call 74; refine (fail_any13 _).mono ?_; rintro e w' ⟨rfl, rfl⟩))
  exact ⟨rfl, rfl, rfl⟩
theorem small_ok13 {n : Int} (h : smB n = true) (w : World) : Calls Tryz.prog 177 #[.int .i64 n] w fun e w' => e = .returned (.int .i64 (2 * n + 1)) ∧ w = w' := by
  have HI := hid (int_any13 n)
  rw [h] at HI
  simp only [if_true] at HI
  clear h
  go_enter Tryz.func177, Tryz.ntmps177
  go_wp2_with (go_at_call 209; refine (HI.out _).mono ?_; rintro e w' ⟨rfl, rfl⟩)
  go_ret
  exact ⟨rfl, rfl⟩
set_option maxHeartbeats 1000000 in
theorem small_no13 {n : Int} (h : smB n = false) (w : World) : Calls Tryz.prog 177 #[.int .i64 n] w fun e w' => e = .panicked (stop13 130) ∧ w = w' := by
  have HI := hid (int_any13 n)
  rw [h] at HI
  simp only [Bool.false_eq_true, if_false] at HI
  clear h
  go_enter Tryz.func177, Tryz.ntmps177
  go_wp2_with (first | (go_at_call 209; refine (HI.out _).mono ?_; rintro e w' ⟨rfl, rfl⟩) | (go_at_call 74; refine (fail_any13 _).mono ?_; rintro e w' ⟨rfl, rfl⟩))
  exact ⟨rfl, rfl, rfl⟩
theorem ref_any13 (i : Int) (w : World) : Calls Tryz.prog 210 #[.int .i64 i] w fun e w' => e = .returned (.int .i64 (reV i)) ∧ w = w' := by
  go_enter Tryz.func210, Tryz.ntmps210
  go_wp2_with (go_at_call 52; refine (ref_any _ _).mono ?_; rintro e w' ⟨rfl, rfl⟩)
  go_ret
  exact ⟨rfl, rfl⟩
theorem truth_any13 (b : Bool) (w : World) : Calls Tryz.prog 179 #[.bool b] w fun e w' => e = .returned (.int .i64 (tv13 b)) ∧ w = w' := by
  have e1 : reV 1 = 2 := by decide
  have e2 : reV 2 = 4 := by decide
  have H1 := hid (ref_any13 1)
  have H2 := hid (ref_any13 2)
  rw [e1] at H1
  rw [e2] at H2
  clear e1 e2
  cases b
  · go_enter Tryz.func179, Tryz.ntmps179
    go_wp2_with (go_at_call 210; refine (H2.out _).mono ?_; rintro e w' ⟨rfl, rfl⟩)
    go_ret
    exact ⟨rfl, rfl⟩
  · go_enter Tryz.func179, Tryz.ntmps179
    go_wp2_with (go_at_call 210; refine (H1.out _).mono ?_; rintro e w' ⟨rfl, rfl⟩)
    go_ret
    exact ⟨rfl, rfl⟩
theorem fdiv_q13 {s a : Int} (ha : a ≠ 0) : s.fdiv a = if s.tmod a ≠ 0 ∧ (decide (s < 0) != decide (a < 0)) = true then s.tdiv a - 1 else s.tdiv a := by
  rw [Int.fdiv_eq_tdiv]
  have hd : a ∣ s ↔ s.tmod a = 0 := Int.dvd_iff_tmod_eq_zero
  by_cases h0 : s.tmod a = 0
  · rw [if_pos (hd.2 h0), if_neg (fun h => h.1 h0)]; omega
  · have hd' : ¬ a ∣ s := fun h => h0 (hd.1 h)
    rw [if_neg hd']
    by_cases hs : s < 0 <;> by_cases hb : a < 0
    · rw [if_neg (by omega), if_neg (by omega), if_neg (by simp [hs, hb]), Int.sign_eq_neg_one_of_neg hb]; omega
    · rw [if_neg (by omega), if_pos (by omega), if_pos ⟨h0, by simp [hs, hb]⟩, Int.sign_eq_one_of_pos (by omega)]
    · rw [if_pos (by omega), if_neg (by omega), if_pos ⟨h0, by simp [hs, hb]⟩]
    · rw [if_pos (by omega), if_pos (by omega), if_neg (by simp [hs, hb])]; omega
theorem quot_no13 (s : Int) (w : World) : Calls Tryz.prog 138 #[.int .i64 s, .int .i64 0] w fun e w' => e = .panicked (stop13 130) ∧ w = w' := by
  go_enter Tryz.func138, Tryz.ntmps138
  go_wp2_with (go_at_call 74; refine (fail_any13 _).mono ?_; rintro e w' ⟨rfl, rfl⟩)
  exact ⟨rfl, rfl, rfl⟩
end Go.Proofs.YtnilempeldlieaaGreat
namespace Go.Proofs.YtnilempeldlieaaGreat
open Go.RowKit Flt
set_option maxRecDepth 100000
abbrev Onl13 (g : Nat) (w w' : World) : Prop := w.grownBy w' (some g)
theorem onl_below13 {g : Nat} {w w' : World} (h : Below w.heap.size w w') : Onl13 g w w' := ⟨h.os, h.tape, h.output, h.size, fun k hk _ => h.block k hk⟩
def Fr13 (w : World) (base : Nat) (A : Option Addr) (c : Nat) (os : List Ob) : Prop := ∃ ls, OwnH w base A c ls ∧ ls.map (·.o) = os
theorem OwnH.off13 {w : World} {base g : Nat} {A : Option Addr} {c : Nat} {ls : List LO} {cs : Array Value} (h : OwnH w base A c ls) (hB : Lies w g 62 cs) (o : Nat) (u : Value) : OwnH (w.setCell ⟨g, o, none⟩ u) base A c ls :=
  ⟨ownsRow_setCell_other h.row (own_blk_ne h.row hB (by decide)) _, fun i l hl => ownsRow_setCell_other (h.ints i l hl) (own_blk_ne (h.ints i l hl) hB (by decide)) _, h.apart⟩
theorem Lies.h3 {w : World} {g : Nat} {t : TypeId} {a0 b0 c0 d0 e0 : Value} (h : Lies w g t #[a0, b0, c0, d0, e0]) (x y z : Value) :
    Lies (((w.setCell ⟨g, 0, none⟩ x).setCell ⟨g, 1, none⟩ y).setCell ⟨g, 2, none⟩ z) g t #[x, y, z, d0, e0] := ((h.set_ 0 x).set_ 1 y).set_ 2 z
theorem Fr13.s3 {w : World} {base g : Nat} {A : Option Addr} {c : Nat} {os : List Ob} {cs : Array Value} (f : Fr13 w base A c os) (hB : Lies w g 62 cs) (x y z : Value) :
    Fr13 (((w.setCell ⟨g, 0, none⟩ x).setCell ⟨g, 1, none⟩ y).setCell ⟨g, 2, none⟩ z) base A c os := by
  obtain ⟨ls, h, e⟩ := f
  exact ⟨ls, ((h.off13 hB 0 x).off13 (hB.set_ 0 x) 1 y).off13 ((hB.set_ 0 x).set_ 1 y) 2 z, e⟩
theorem onl_set13 (w : World) (g i : Nat) (v : Value) : Onl13 g w (w.setCell ⟨g, i, none⟩ v) :=
  ⟨rfl, rfl, rfl, by simp, fun k _ hk => Below.heap_setCell w _ v k (by intro e; exact hk (by rw [e]))⟩
theorem onl_s3_13 (w : World) (g : Nat) (x y z : Value) : Onl13 g w (((w.setCell ⟨g, 0, none⟩ x).setCell ⟨g, 1, none⟩ y).setCell ⟨g, 2, none⟩ z) :=
  ((onl_set13 w g 0 x).trans (onl_set13 _ g 1 y)).trans (onl_set13 _ g 2 z)
theorem Fr13.lower {w : World} {base B : Nat} {A : Option Addr} {c : Nat} {os : List Ob} (f : Fr13 w base A c os) (hB : B ≤ base) : Fr13 w B A c os := by
  obtain ⟨ls, h, e⟩ := f
  exact ⟨ls, h.lower hB, e⟩
theorem Fr13.obs {w : World} {base : Nat} {A : Option Addr} {c : Nat} {os : List Ob} (f : Fr13 w base A c os) : ObsR w A os := by
  obtain ⟨ls, h, e⟩ := f
  exact own_obs h e
theorem Fr13.later {w w' : World} {base : Nat} {A : Option Addr} {c : Nat} {os : List Ob} (f : Fr13 w base A c os) (hb : Below w.heap.size w w') : Fr13 w' base A c os := by
  obtain ⟨ls, h, e⟩ := f
  exact ⟨ls, h.later hb, e⟩
abbrev CL13 (w : World) (b : Nat) (h : Hp) (A : Option Addr) (c : Nat) (s : Int) (n : Nat) (SA : Option Addr) (da : Nat) : Prop :=
  Lies w b 62 #[.slice A h.objs.length c, .int .i64 h.cap, .int .i64 h.last, .int .i64 s, .slice SA n da]
structure In13 (w : World) (b base : Nat) (h : Hp) (A : Option Addr) (c : Nat) (s : Int) (args : List Int) (SA : Option Addr) (da : Nat) : Prop where
  box : CL13 w b h A c s args.length SA da
  own : Fr13 w base A c h.objs
  ints : IntsR w SA args
  may : mayB h = true
  wd : ∀ o ∈ h.objs, In64 o.bits
  has : hasB h.objs.length s = true
  hall : args.all (hasB h.objs.length) = true
  n12 : 12 ≤ h.objs.length
  low : base ≤ w.heap.size
  far : 0 < args.length → ∀ q, SA = some q → q.block ≠ b
theorem In13.later {w w' : World} {b base : Nat} {h : Hp} {A : Option Addr} {c : Nat} {s : Int} {args : List Int} {SA : Option Addr} {da : Nat} (I : In13 w b base h A c s args SA da) (hb : Below w.heap.size w w') : In13 w' b base h A c s args SA da :=
  ⟨I.box.later hb, I.own.later hb, I.ints.below hb, I.may, I.wd, I.has, I.hall, I.n12, Nat.le_trans I.low hb.size, I.far⟩
theorem In13.fit {w : World} {b base : Nat} {h : Hp} {A : Option Addr} {c : Nat} {s : Int} {args : List Int} {SA : Option Addr} {da : Nat} (I : In13 w b base h A c s args SA da) : h.Fit := may_fit I.may
theorem In13.arg {w : World} {b base : Nat} {h : Hp} {A : Option Addr} {c : Nat} {s : Int} {args : List Int} {SA : Option Addr} {da : Nat} (I : In13 w b base h A c s args SA da) {k : Nat} (hk : k < args.length) :
    ∃ p o, SA = some ⟨p, o, none⟩ ∧ w.cell? ⟨p, o + k, none⟩ = some (.int .i64 (args.getD k 0)) ∧ p ≠ b := by
  obtain ⟨p, o, e, -, hc⟩ := I.ints (by omega)
  refine ⟨p, o, e, ?_, I.far (by omega) _ e⟩
  exact hc k _ (by rw [List.getD_eq_getElem?_getD, List.getElem?_eq_getElem hk]; rfl)
def Pr13 (w : World) (b base : Nat) (s : Int) (n : Nat) (SA : Option Addr) (da : Nat) (r : Rs) (e : Ending) (w' : World) : Prop :=
  Onl13 b w w' ∧ (r.2.2 ≠ 0 → e = .panicked (stop13 r.2.2)) ∧ (r.2.2 = 0 → e = .returned (.int .i64 r.2.1) ∧ ∃ A' c', CL13 w' b r.1 A' c' s n SA da ∧ Fr13 w' base A' c' r.1.objs)
theorem pr_stopA13 {w w' : World} {b base : Nat} {s : Int} {n : Nat} {SA : Option Addr} {da : Nat} {r : Rs} {en : Int} (hb : Below w.heap.size w w') (hr : r.2.2 = en) (h0 : en ≠ 0) : Pr13 w b base s n SA da r (.panicked (stop13 en)) w' := by
  subst hr
  exact ⟨onl_below13 hb, fun _ => rfl, fun h => absurd h h0⟩
def Ow13 (w w' : World) (h : Hp) (A : Option Addr) (c : Nat) (g : Hp) (A' : Option Addr) (c' : Nat) : Prop := (A' = A ∧ c' = c ∧ g = h) ∨ Fr13 w' w.heap.size A' c' g.objs
def Po13 (w : World) (b : Nat) (h : Hp) (A : Option Addr) (c : Nat) (s : Int) (n : Nat) (SA : Option Addr) (da : Nat) (r : Rs) (e : Ending) (w' : World) : Prop :=
  Onl13 b w w' ∧ (r.2.2 ≠ 0 → e = .panicked (stop13 r.2.2)) ∧ (r.2.2 = 0 → e = .returned (.int .i64 r.2.1) ∧ ∃ A' c', CL13 w' b r.1 A' c' s n SA da ∧ Ow13 w w' h A c r.1 A' c')
theorem pr_stop13 {w w' : World} {b : Nat} {h : Hp} {A : Option Addr} {c : Nat} {s : Int} {n : Nat} {SA : Option Addr} {da : Nat} {r : Rs} {en : Int} (hb : Below w.heap.size w w') (hr : r.2.2 = en) (h0 : en ≠ 0) : Po13 w b h A c s n SA da r (.panicked (stop13 en)) w' := by
  subst hr
  exact ⟨onl_below13 hb, fun _ => rfl, fun h => absurd h h0⟩
theorem pr_keep13 {w w' : World} {b base : Nat} {h : Hp} {A : Option Addr} {c : Nat} {s : Int} {args : List Int} {SA : Option Addr} {da : Nat} {r : Rs} {v : Int} (I : In13 w b base h A c s args SA da) (hb : Below w.heap.size w w') (hr : r = (h, v, 0)) :
    Po13 w b h A c s args.length SA da r (.returned (.int .i64 v)) w' := by
  subst hr
  exact ⟨onl_below13 hb, fun h => absurd rfl h, fun _ => ⟨rfl, A, c, I.box.later hb, .inl ⟨rfl, rfl, rfl⟩⟩⟩
theorem in_ok13 {h : Hp} {n : Int} (e : smB n = true) : in13 h n = (h, 2 * n + 1, 0) := if_pos e
theorem in_no13 {h : Hp} {n : Int} (e : smB n = false) : in13 h n = (h, 0, 130) := by unfold in13; rw [if_neg (by rw [e]; decide)]; rfl
end Go.Proofs.YtnilempeldlieaaGreat
