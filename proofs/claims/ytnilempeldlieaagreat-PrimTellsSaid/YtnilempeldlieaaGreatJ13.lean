/- The document on primitives: a byte, set. The document on primitives: a slot, a byte. Is a value the ref of an object of a kind; its slots; a SmallInteger up to another one. -/
import Derived.Test.YtnilempeldlieaaGreatJ04
import Derived.Test.YtnilempeldlieaaGreatJYD13
import Derived.Test.YtnilempeldlieaaGreatJ11
import Derived.Test.YtnilempeldlieaaGreatJPM13
import Derived.Test.YtnilempeldlieaaGreatJ07
import Derived.Test.YtnilempeldlieaaGreatJPH13
import Derived.Test.YtnilempeldlieaaGreatJ06
import Derived.Test.YtnilempeldlieaaGreatJ03
namespace Go.Proofs.YtnilempeldlieaaGreat
open Go.RowKit Flt
set_option maxRecDepth 100000
def RsQ13 (b : Nat) (w : World) (h : Hp) (A : Option Addr) (c : Nat) (r : Rs) (e : Ending) (w' : World) : Prop :=
  ∃ A9 c9, e = .returned (.tuple #[.agg #[.slice A9 r.1.objs.length c9, .int .i64 r.1.cap, .int .i64 r.1.last], .int .i64 r.2.1, .int .i64 r.2.2]) ∧ ((r.1 = h ∧ A9 = A ∧ c9 = c) ∨ ∃ ls, ls.map (·.o) = r.1.objs ∧ OwnH w' b A9 c9 ls) ∧ Below w.heap.size w w'
theorem RsP13.q {w w' : World} {h : Hp} {A : Option Addr} {c b : Nat} {r : Rs} {e : Ending} (p : RsP13 w h A c r e w') (hb : b ≤ w.heap.size) : RsQ13 b w h A c r e w' := by
  obtain ⟨h1, ⟨h2, h3⟩ | ⟨A', c', ls, h2, h3, h4⟩⟩ := p
  next =>
   exact ⟨A, c, by rw [h2]; exact h3, .inl ⟨h2, rfl, rfl⟩, h1⟩
  next =>
   exact ⟨A', c', h2, .inr ⟨ls, h3, h4.lower hb⟩, h1⟩
theorem RsH13.q {w w' : World} {h : Hp} {A : Option Addr} {c b : Nat} {r : Rs} {e : Ending} (p : RsH13 w h A c r e w') (hr : r.1 = h) : RsQ13 b w h A c r e w' := ⟨A, c, by rw [hr]; exact p.1, .inl ⟨hr, rfl, rfl⟩, p.2⟩
set_option maxHeartbeats 1000000 in
theorem rparts26_any13 (h : Hp) (s a b : Int) (al : List Int) (SA : Option Addr) (da : Nat) (A : Option Addr) (c : Nat) (w : World) (hs : ObsR w A h.objs) (fit : h.Fit) (hsa : IntsR w SA al) (hal : al.length = 2) (ha : al[0]? = some a) (hb1 : al[1]? = some b) :
    Calls Tryz.prog 43 #[.agg #[.slice A h.objs.length c, .int .i64 h.cap, .int .i64 h.last], .int .i64 26, .int .i64 s, .slice SA al.length da] w (RsQ13 w.heap.size w h A c (pa13 h 26 s a b)) := by
  have HS := hid hs
  have HF := hid fit
  obtain ⟨ba, oa, rfl, hba, hca⟩ := hsa (by omega)
  have HZ0 := hid (hca 0 a ha)
  have HZ1 := hid (hca 1 b hb1)
  have HBA := hid hba
  rw [hal]
  clear hs fit hsa hal ha hba hca hb1
  obtain ⟨r, hr⟩ : ∃ r, r = pa13 h 26 s a b := ⟨_, rfl⟩
  rw [← hr]
  have HRR := hid hr
  clear hr
  obtain ⟨w0, hw0⟩ : ∃ u, u = (w.alloc (.cells #[Value.slice A h.objs.length c, Value.int .i64 h.cap, Value.int .i64 h.last] 24)).alloc (.cells #[.slice none 0 0, .int .i64 0, .int .i64 0] 24) := ⟨_, rfl⟩
  obtain ⟨bR, hbR⟩ : ∃ x, x = w.heap.size + 1 := ⟨_, rfl⟩
  have HB0 : Hid (Below w.heap.size w w0) := by show Below _ _ _; rw [hw0]; exact below_alloc2 w _ _
  have HX0 : Hid (Lies w0 w.heap.size 24 #[Value.slice A h.objs.length c, Value.int .i64 h.cap, Value.int .i64 h.last]) := by
    show Lies _ _ _ _
    rw [hw0]; exact (Lies.new _ _ _).alloc _
  have HR0 : Hid (Lies w0 bR 24 #[.slice none 0 0, .int .i64 0, .int .i64 0]) := by
    show Lies _ _ _ _
    have := Lies.new (w.alloc (.cells #[Value.slice A h.objs.length c, Value.int .i64 h.cap, Value.int .i64 h.last] 24)) 24 #[.slice none 0 0, .int .i64 0, .int .i64 0]
    rw [hw0, hbR]; simpa using this
  have HRW : Hid (w.heap.size ≤ bR) := by show _ ≤ _; omega
  have HNE : Hid (w.heap.size ≠ bR) := by show _ ≠ _; omega
  go_enter Tryz.func43, Tryz.ntmps43
  go_upto_region 1 with fail
  rw [← hw0, ← hbR]
  clear hw0 hbR
  have y0 : w0.cell? ⟨ba, oa, none⟩ = some (.int .i64 a) := by
    have := (HB0.out.cell (p := ⟨ba, oa + 0, none⟩) HBA.out).trans HZ0.out
    simpa using this
  obtain ⟨x0, x1, x2⟩ := HX0.out.c3
  go_wp2_with fail
  refine (rn_any a w0).mono ?_
  rintro e wa ⟨rfl, hw⟩
  rw [← hw]
  clear hw y0 x0 x1 x2
  cases hn : nB a
  next =>
   have HE : Hid (r = fa13 h) := by show _ = _; rw [HRR.out]; unfold pa13; rw [if_neg (by decide), if_pos hn]
   obtain ⟨n, hnv⟩ : ∃ n, n = nV a := ⟨_, rfl⟩
   rw [← hnv]
   clear hn hnv
   obtain ⟨ra, hra⟩ : ∃ x, x = fa13 h := ⟨_, rfl⟩
   rw [← hra] at HE
   have HC9 := hid (show Calls Tryz.prog 41 #[.agg #[.slice A h.objs.length c, .int .i64 h.cap, .int .i64 h.last]] w0 (RsQ13 w.heap.size w0 h A c ra) from by rw [hra]; exact (rfail_any13 h A c w0).mono fun _ _ p => p.q rfl)
   clear hra
   obtain ⟨x0, x1, x2⟩ := HX0.out.c3
   go_wp2_with fail
   refine (HC9.out).mono ?_
   rintro e w1 ⟨A9, c9, rfl, hor, hb⟩
   have HOR := hid hor
   clear hor
   have HB1 := hid (then_w HB0.out hb)
   have HX1 := hid (HX0.out.later hb)
   have HR1 := hid (HR0.out.later hb)
   clear hb
   clear x0 x1 x2
   obtain ⟨k0, k1, k2⟩ := HR1.out.c3
   obtain ⟨f0, f1, f2⟩ := HR1.out.f3
   go_wp2_with fail
   have HK := HR1.out.s3 (.slice A9 ra.1.objs.length c9) (.int .i64 ra.1.cap) (.int .i64 ra.1.last)
   obtain ⟨r0, r1, r2⟩ := HK
   have HBE := below_s3 HB1.out HRW.out (.slice A9 ra.1.objs.length c9) (.int .i64 ra.1.cap) (.int .i64 ra.1.last)
   refine bodyPost_ret (v := .tuple #[.agg #[.slice A9 ra.1.objs.length c9, .int .i64 ra.1.cap, .int .i64 ra.1.last], .int .i64 ra.2.1, .int .i64 ra.2.2]) (by simp [results, Tryz.results43, go_sem, r0, r1, r2]) rfl ?_
   rw [HE.out]
   refine ⟨A9, c9, rfl, ?_, HBE⟩
   rcases HOR.out with h1 | ⟨ls, h1, h2⟩
   next =>
    exact .inl h1
   next =>
    exact .inr ⟨ls, h1, h2.s3_13 HR1.out _ _ _⟩
  next =>
   have HE0 : Hid (r = if nB b = false ∨ sbE h s (nV a - 1) (nV b) ≠ 0 then fa13 h else (sbR h s (nV a - 1) (nV b), b, 0)) := by show _ = _; rw [HRR.out]; unfold pa13; rw [if_neg (by decide), if_neg (by rw [hn]; decide), if_neg (by decide), if_neg (by decide), if_neg (by decide)]
   have hbd := n_bd13 hn
   obtain ⟨n, hnv⟩ : ∃ n, n = nV a := ⟨_, rfl⟩
   rw [← hnv] at HE0 hbd ⊢
   have hw1 : IntKind.i64.wrap (n - 1) = n - 1 := IntWalk.i64_in _ (by omega)
   have HW1 := hid hw1
   clear hn hnv HRR hbd hw1
   have y1 := (HB0.out.cell (p := ⟨ba, oa + 1, none⟩) HBA.out).trans HZ1.out
   obtain ⟨x0, x1, x2⟩ := HX0.out.c3
   go_wp2_with fail
   refine (rn_any b w0).mono ?_
   rintro e wb ⟨rfl, hw⟩
   rw [← hw]
   clear hw y1 x0 x1 x2
   cases hm : nB b
   next =>
    have HE : Hid (r = fa13 h) := by show _ = _; rw [HE0.out, if_pos (.inl hm)]
    obtain ⟨m, hmv⟩ : ∃ n, n = nV b := ⟨_, rfl⟩
    rw [← hmv]
    clear hm hmv
    obtain ⟨ra, hra⟩ : ∃ x, x = fa13 h := ⟨_, rfl⟩
    rw [← hra] at HE
    have HC9 := hid (show Calls Tryz.prog 41 #[.agg #[.slice A h.objs.length c, .int .i64 h.cap, .int .i64 h.last]] w0 (RsQ13 w.heap.size w0 h A c ra) from by rw [hra]; exact (rfail_any13 h A c w0).mono fun _ _ p => p.q rfl)
    clear hra
    obtain ⟨x0, x1, x2⟩ := HX0.out.c3
    go_wp2_with fail
    refine (HC9.out).mono ?_
    rintro e w1 ⟨A9, c9, rfl, hor, hb⟩
    have HOR := hid hor
    clear hor
    have HB1 := hid (then_w HB0.out hb)
    have HX1 := hid (HX0.out.later hb)
    have HR1 := hid (HR0.out.later hb)
    clear hb
    clear x0 x1 x2
    obtain ⟨k0, k1, k2⟩ := HR1.out.c3
    obtain ⟨f0, f1, f2⟩ := HR1.out.f3
    go_wp2_with fail
    have HK := HR1.out.s3 (.slice A9 ra.1.objs.length c9) (.int .i64 ra.1.cap) (.int .i64 ra.1.last)
    obtain ⟨r0, r1, r2⟩ := HK
    have HBE := below_s3 HB1.out HRW.out (.slice A9 ra.1.objs.length c9) (.int .i64 ra.1.cap) (.int .i64 ra.1.last)
    refine bodyPost_ret (v := .tuple #[.agg #[.slice A9 ra.1.objs.length c9, .int .i64 ra.1.cap, .int .i64 ra.1.last], .int .i64 ra.2.1, .int .i64 ra.2.2]) (by simp [results, Tryz.results43, go_sem, r0, r1, r2]) rfl ?_
    rw [HE.out]
    refine ⟨A9, c9, rfl, ?_, HBE⟩
    rcases HOR.out with h1 | ⟨ls, h1, h2⟩
    next =>
     exact .inl h1
    next =>
     exact .inr ⟨ls, h1, h2.s3_13 HR1.out _ _ _⟩
   next =>
    obtain ⟨m, hmv⟩ : ∃ n, n = nV b := ⟨_, rfl⟩
    obtain ⟨en, hen⟩ : ∃ x, x = sbE h s (n - 1) m := ⟨_, rfl⟩
    obtain ⟨G, hG⟩ : ∃ x, x = sbR h s (n - 1) m := ⟨_, rfl⟩
    obtain ⟨ra, hra⟩ : ∃ x : Rs, x = if en = 0 then (G, b, 0) else fa13 h := ⟨_, rfl⟩
    have HE : Hid (r = ra) := by
      show _ = _
      rw [HE0.out, hra, ← hmv, ← hen, ← hG]
      by_cases h0 : en = 0
      next =>
       rw [if_neg (by rw [hm]; simp [h0]), if_pos h0]
      next =>
       rw [if_pos (.inr h0), if_neg h0]
    have HSET : Hid (∀ W : World, ObsR W A h.objs → Calls Tryz.prog 82 #[.agg #[.slice A h.objs.length c, .int .i64 h.cap, .int .i64 h.last], .int .i64 s, .int .i64 (n - 1), .int .i64 m] W (HeapOw13 W G en)) := by
      show ∀ W : World, _
      intro W hW
      rw [hen, hG]; exact rsetbyte_own13 h s (n - 1) m A c W hW HF.out
    have HRA := hid hra
    rw [← hmv]
    clear hm hmv HE0 hen hG hra
    have hw1 := HW1.out
    obtain ⟨x0, x1, x2⟩ := HX0.out.c3
    go_wp2_with fail
    refine (HSET.out w0 (HS.out.below HB0.out)).mono ?_
    rintro e w1 ⟨A1, c1, rfl, -, hb, how⟩
    have OW1 : Hid (en = 0 → ∃ ls, ls.map (·.o) = G.objs ∧ OwnH w1 w.heap.size A1 c1 ls) := fun e => by
      obtain ⟨ls, h1, h2⟩ := how e
      exact ⟨ls, h1, h2.lower HB0.out.size⟩
    have HB1 := hid (then_w HB0.out hb)
    have HX1 := hid (HX0.out.later hb)
    have HR1 := hid (HR0.out.later hb)
    clear hb
    clear x0 x1 x2 hw1 how
    go_upto_region 23 with fail
    obtain ⟨w2, hw⟩ : ∃ x, x = w1.alloc (.cells #[Value.slice A1 G.objs.length c1, Value.int .i64 G.cap, Value.int .i64 G.last] 24) := ⟨_, rfl⟩
    obtain ⟨bG, hg⟩ : ∃ x, x = w1.heap.size := ⟨_, rfl⟩
    rw [← hw, ← hg]
    have hb : Below w1.heap.size w1 w2 := by rw [hw]; exact below_alloc _ _
    have HG2 : Hid (Lies w2 bG 24 #[Value.slice A1 G.objs.length c1, Value.int .i64 G.cap, Value.int .i64 G.last]) := by show Lies _ _ _ _; rw [hw, hg]; exact Lies.new _ _ _
    have HNR : Hid (bG ≠ bR) := by show _ ≠ _; rw [hg]; exact (Nat.ne_of_lt HR1.out.lt).symm
    have OW2 : Hid (en = 0 → ∃ ls, ls.map (·.o) = G.objs ∧ OwnH w2 w.heap.size A1 c1 ls) := fun e => by
      obtain ⟨ls, h1, h2⟩ := OW1.out e
      exact ⟨ls, h1, h2.later hb⟩
    clear hw hg
    have HB2 := hid (then_w HB1.out hb)
    have HX2 := hid (HX1.out.later hb)
    have HR2 := hid (HR1.out.later hb)
    clear hb
    have HTK : Hid (∀ W, Below w2.heap.size w2 W → Calls Tryz.prog 79 #[.agg #[.slice A h.objs.length c, .int .i64 h.cap, .int .i64 h.last], .agg #[.slice A1 G.objs.length c1, .int .i64 G.cap, .int .i64 G.last], .int .i64 en, .int .i64 b] W (RsQ13 w.heap.size W h A c ra)) := by
      show ∀ W, _
      intro W hW
      refine (rtook_any13 h G en b A A1 c c1 W).mono ?_
      rintro e u ⟨rfl, hb⟩
      rw [HRA.out]
      by_cases h0 : en = 0
      next =>
       rw [if_pos h0, if_pos h0]
       obtain ⟨ls, h1, h2⟩ := OW2.out h0
       exact ⟨A1, c1, rfl, .inr ⟨ls, h1, (h2.later hW).later hb⟩, hb⟩
      next =>
       rw [if_neg h0, if_neg h0]
       exact ⟨A, c, rfl, .inl ⟨rfl, rfl, rfl⟩, hb⟩
    clear HRA OW1 OW2
    obtain ⟨z0, z1, z2⟩ := HG2.out.c3
    have y1 := (HB2.out.cell (p := ⟨ba, oa + 1, none⟩) HBA.out).trans HZ1.out
    obtain ⟨x0, x1, x2⟩ := HX2.out.c3
    refine wp_region_held_drew (S := (fun w' => w'.cell? ⟨w.heap.size, 0, none⟩ = some (.slice A h.objs.length c) ∧ w'.cell? ⟨w.heap.size, 1, none⟩ = some (.int .i64 h.cap) ∧ w'.cell? ⟨w.heap.size, 2, none⟩ = some (.int .i64 h.last) ∧ w'.cell? ⟨ba, oa + 1, none⟩ = some (.int .i64 b) ∧ w'.cell? ⟨bG, 0, none⟩ = some (.slice A1 G.objs.length c1) ∧ w'.cell? ⟨bG, 1, none⟩ = some (.int .i64 G.cap) ∧ w'.cell? ⟨bG, 2, none⟩ = some (.int .i64 G.last))) (by kernel_rfl) ?_ (fun hH0 => ?_)
    next =>
     exact ⟨dcJ x0, dcJ x1, dcJ x2, dcJ y1, dcJ z0, dcJ z1, dcJ z2⟩
    refine tkJ 0 ⟨some 164, .load 24 (.tmp 4), 24, "ref.go:111", #[], none⟩ ?_
    refine tkJ 1 ⟨some 165, .load 24 (.tmp 22), 24, "ref.go:111", #[], none⟩ ?_
    refine tkJ 2 ⟨some 166, .move (.tmp 23), 25, "ref.go:111", #[], none⟩ ?_
    refine tkJ 3 ⟨some 167, .move (.tmp 3), 34, "ref.go:111", #[], none⟩ ?_
    refine tkJ 4 ⟨some 168, .indexAddr 34 (.tmp 167) (.const (Go.Value.int .i64 1)), 0, "ref.go:111", #[⟨3, .data⟩], none⟩ ?_
    refine tkJ 5 ⟨some 169, .load 3 (.tmp 168), 3, "ref.go:111", #[⟨4, .data⟩], none⟩ ?_
    refine rdJ 6 ⟨some 170, .call { callee := .value (.func 79), args := #[.tmp 164, .tmp 165, .tmp 166, .tmp 169], argTypes := #[24, 24, 25, 3] }, 44, "ref.go:111", #[⟨0, .data⟩, ⟨1, .data⟩, ⟨2, .data⟩, ⟨5, .data⟩], none⟩ fun K hK => ?_
    go_simp
    go_at_call 79
    obtain ⟨wd, hd⟩ : ∃ x, x = w2.drew := ⟨_, rfl⟩
    rw [← hd]
    have hbd : Below w2.heap.size w2 wd := by rw [hd]; exact (Below.refl _ _).drew
    refine (HTK.out wd hbd).mono ?_
    rintro e ut ⟨A9, c9, rfl, hor, hb2⟩
    have hb := then_w hbd hb2
    have HBT := hid (then_w HB2.out hb)
    have HXT := hid (HX2.out.later hb)
    have HRT := hid (HR2.out.later hb)
    have HGT := hid (HG2.out.later hb)
    have HOR := hid hor
    clear hd hbd hb hb2 hor
    obtain ⟨v0, v1, v2⟩ := HXT.out.c3
    have v3 := (HBT.out.cell (p := ⟨ba, oa + 1, none⟩) HBA.out).trans HZ1.out
    obtain ⟨v4, v5, v6⟩ := HGT.out.c3
    refine hK.out _ _ ?_ (fun hH1 => ?_)
    next =>
     exact ⟨v0, v1, v2, v3, v4, v5, v6⟩
    clear hK K
    try simp only [apt12]
    clear v0 v1 v2 v3 v4 v5 v6
    refine tkJ 7 ⟨some 171, .extract (.tmp 170) 0, 24, "ref.go:111", #[⟨6, .data⟩], none⟩ ?_
    refine tkJ 8 ⟨some 172, .extract (.tmp 170) 1, 3, "ref.go:111", #[⟨6, .data⟩], none⟩ ?_
    refine tkJ 9 ⟨some 173, .extract (.tmp 170) 2, 25, "ref.go:111", #[⟨6, .data⟩], none⟩ ?_
    refine rdJ 10 ⟨none, .store 24 (.tmp 8) (.tmp 171), 0, "ref.go:111", #[⟨7, .data⟩, ⟨6, .chain⟩, ⟨0, .phase⟩, ⟨1, .phase⟩, ⟨2, .phase⟩, ⟨3, .phase⟩, ⟨4, .phase⟩, ⟨5, .phase⟩, ⟨6, .phase⟩, ⟨7, .phase⟩, ⟨8, .phase⟩, ⟨9, .phase⟩], none⟩ fun K hK => ?_
    obtain ⟨k0, k1, k2⟩ := HRT.out.c3
    obtain ⟨f0, f1, f2⟩ := HRT.out.f3
    go_simp
    clear k0 k1 k2 f0 f1 f2
    have HBE := below_s3 HBT.out HRW.out (.slice A9 ra.1.objs.length c9) (.int .i64 ra.1.cap) (.int .i64 ra.1.last)
    have HX9 := ((HXT.out.far (p := ⟨bR, 0, none⟩) HNE.out (.slice A9 ra.1.objs.length c9)).far (p := ⟨bR, 1, none⟩) HNE.out (.int .i64 ra.1.cap)).far (p := ⟨bR, 2, none⟩) HNE.out (.int .i64 ra.1.last)
    have HG9 := ((HGT.out.far (p := ⟨bR, 0, none⟩) HNR.out (.slice A9 ra.1.objs.length c9)).far (p := ⟨bR, 1, none⟩) HNR.out (.int .i64 ra.1.cap)).far (p := ⟨bR, 2, none⟩) HNR.out (.int .i64 ra.1.last)
    obtain ⟨v0, v1, v2⟩ := HX9.c3
    have v3 := (HBE.cell (p := ⟨ba, oa + 1, none⟩) HBA.out).trans HZ1.out
    obtain ⟨v4, v5, v6⟩ := HG9.c3
    refine hK.out _ _ ?_ (fun hH2 => ?_)
    next =>
     exact ⟨v0, v1, v2, v3, v4, v5, v6⟩
    clear hK K
    try simp only [apt12]
    clear v0 v1 v2 v3 v4 v5 v6
    clear HX9 HG9
    refine tkJ 11 ⟨some 9, .assign (.tmp 172), 3, "ref.go:111", #[⟨8, .data⟩, ⟨10, .chain⟩, ⟨0, .phase⟩, ⟨1, .phase⟩, ⟨2, .phase⟩, ⟨3, .phase⟩, ⟨4, .phase⟩, ⟨5, .phase⟩, ⟨6, .phase⟩, ⟨7, .phase⟩, ⟨8, .phase⟩, ⟨9, .phase⟩, ⟨10, .phase⟩], none⟩ ?_
    refine tkJ 12 ⟨some 10, .assign (.tmp 173), 25, "ref.go:111", #[⟨9, .data⟩, ⟨11, .chain⟩, ⟨0, .phase⟩, ⟨1, .phase⟩, ⟨2, .phase⟩, ⟨3, .phase⟩, ⟨4, .phase⟩, ⟨5, .phase⟩, ⟨6, .phase⟩, ⟨7, .phase⟩, ⟨8, .phase⟩, ⟨9, .phase⟩, ⟨10, .phase⟩, ⟨11, .phase⟩], none⟩ ?_
    refine wpAnyH_done (by kernel_rfl) ?_ _
    have HK := HRT.out.s3 (.slice A9 ra.1.objs.length c9) (.int .i64 ra.1.cap) (.int .i64 ra.1.last)
    obtain ⟨r0, r1, r2⟩ := HK
    go_wp2_with fail
    refine bodyPost_ret (v := .tuple #[.agg #[.slice A9 ra.1.objs.length c9, .int .i64 ra.1.cap, .int .i64 ra.1.last], .int .i64 ra.2.1, .int .i64 ra.2.2]) (by simp [results, Tryz.results43, go_sem, r0, r1, r2]) rfl ?_
    rw [HE.out]
    refine ⟨A9, c9, rfl, ?_, HBE⟩
    rcases HOR.out with h1 | ⟨ls, h1, h2⟩
    next =>
     exact .inl h1
    next =>
     exact .inr ⟨ls, h1, h2.s3_13 HRT.out _ _ _⟩
end Go.Proofs.YtnilempeldlieaaGreat
namespace Go.Proofs.YtnilempeldlieaaGreat
open Go.RowKit Flt
set_option maxRecDepth 100000
set_option maxHeartbeats 1000000 in
theorem rparts8_any13 (h : Hp) (s a b : Int) (al : List Int) (SA : Option Addr) (da : Nat) (A : Option Addr) (c : Nat) (w : World) (hs : ObsR w A h.objs) (fit : h.Fit) (hsa : IntsR w SA al) (hal : al.length = 1) (ha : al[0]? = some a) :
    Calls Tryz.prog 43 #[.agg #[.slice A h.objs.length c, .int .i64 h.cap, .int .i64 h.last], .int .i64 8, .int .i64 s, .slice SA al.length da] w (RsH13 w h A c (pa13 h 8 s a b)) := by
  have HS := hid hs
  have HF := hid fit
  obtain ⟨ba, oa, rfl, hba, hca⟩ := hsa (by omega)
  have HY := hid (hca 0 a ha)
  have HBA := hid hba
  rw [hal]
  clear hs fit hsa hal ha hba hca
  obtain ⟨r, hr⟩ : ∃ r, r = pa13 h 8 s a b := ⟨_, rfl⟩
  rw [← hr]
  have HRR := hid hr
  clear hr
  obtain ⟨w0, hw0⟩ : ∃ u, u = (w.alloc (.cells #[Value.slice A h.objs.length c, Value.int .i64 h.cap, Value.int .i64 h.last] 24)).alloc (.cells #[.slice none 0 0, .int .i64 0, .int .i64 0] 24) := ⟨_, rfl⟩
  obtain ⟨bR, hbR⟩ : ∃ x, x = w.heap.size + 1 := ⟨_, rfl⟩
  have HB0 : Hid (Below w.heap.size w w0) := by show Below _ _ _; rw [hw0]; exact below_alloc2 w _ _
  have HX0 : Hid (Lies w0 w.heap.size 24 #[Value.slice A h.objs.length c, Value.int .i64 h.cap, Value.int .i64 h.last]) := by
    show Lies _ _ _ _
    rw [hw0]; exact (Lies.new _ _ _).alloc _
  have HR0 : Hid (Lies w0 bR 24 #[.slice none 0 0, .int .i64 0, .int .i64 0]) := by
    show Lies _ _ _ _
    have := Lies.new (w.alloc (.cells #[Value.slice A h.objs.length c, Value.int .i64 h.cap, Value.int .i64 h.last] 24)) 24 #[.slice none 0 0, .int .i64 0, .int .i64 0]
    rw [hw0, hbR]; simpa using this
  have HRW : Hid (w.heap.size ≤ bR) := by show _ ≤ _; omega
  have HNE : Hid (w.heap.size ≠ bR) := by show _ ≠ _; omega
  go_enter Tryz.func43, Tryz.ntmps43
  go_upto_region 1 with fail
  rw [← hw0, ← hbR]
  clear hw0 hbR
  have y0 : w0.cell? ⟨ba, oa, none⟩ = some (.int .i64 a) := by
    have := (HB0.out.cell (p := ⟨ba, oa + 0, none⟩) HBA.out).trans HY.out
    simpa using this
  obtain ⟨x0, x1, x2⟩ := HX0.out.c3
  go_wp2_with fail
  refine (rn_any a w0).mono ?_
  rintro e wa ⟨rfl, hw⟩
  rw [← hw]
  clear hw y0 x0 x1 x2
  cases hn : nB a
  next =>
   have HE : Hid (r = fa13 h) := by show _ = _; rw [HRR.out]; unfold pa13; rw [if_neg (by decide), if_pos hn]
   obtain ⟨n, hnv⟩ : ∃ n, n = nV a := ⟨_, rfl⟩
   rw [← hnv]
   clear hn hnv
   obtain ⟨x0, x1, x2⟩ := HX0.out.c3
   go_wp2_with fail
   refine (rfail_any13 h A c w0).mono ?_
   rintro e w1 ⟨rfl, hb⟩
   have HB1 := hid (then_w HB0.out hb)
   have HX1 := hid (HX0.out.later hb)
   have HR1 := hid (HR0.out.later hb)
   clear hb x0 x1 x2
   obtain ⟨x0, x1, x2⟩ := HX1.out.c3
   obtain ⟨k0, k1, k2⟩ := HR1.out.c3
   obtain ⟨f0, f1, f2⟩ := HR1.out.f3
   go_wp2_with fail
   have HK := HR1.out.s3 (.slice A h.objs.length c) (.int .i64 h.cap) (.int .i64 h.last)
   obtain ⟨r0, r1, r2⟩ := HK
   have HBE := below_s3 HB1.out HRW.out (.slice A h.objs.length c) (.int .i64 h.cap) (.int .i64 h.last)
   refine bodyPost_ret (v := .tuple #[.agg #[.slice A h.objs.length c, .int .i64 h.cap, .int .i64 h.last], .int .i64 (fa13 h).2.1, .int .i64 (fa13 h).2.2]) (by simp [results, Tryz.results43, go_sem, r0, r1, r2]) rfl ?_
   exact ⟨by rw [HE.out], HBE⟩
  next =>
   have HE0 : Hid (r = if plE h s 0 (nV a - 1) ≠ 0 then fa13 h else (h, geV h s (nV a - 1), 0)) := by show _ = _; rw [HRR.out]; unfold pa13; rw [if_neg (by decide), if_neg (by rw [hn]; decide), if_pos rfl]
   have hbd := n_bd13 hn
   obtain ⟨n, hnv⟩ : ∃ n, n = nV a := ⟨_, rfl⟩
   rw [← hnv] at HE0 hbd ⊢
   have hw1 : IntKind.i64.wrap (n - 1) = n - 1 := IntWalk.i64_in _ (by omega)
   clear hn hnv HRR hbd
   obtain ⟨x0, x1, x2⟩ := HX0.out.c3
   go_wp2_with fail
   refine (rget_any h s (n - 1) A c w0 (HS.out.below HB0.out) HF.out).mono ?_
   rintro e w1 ⟨rfl, hb⟩
   have HB1 := hid (then_w HB0.out hb)
   have HX1 := hid (HX0.out.later hb)
   have HR1 := hid (HR0.out.later hb)
   clear hb x0 x1 x2 hw1
   obtain ⟨en, hen⟩ : ∃ x, x = plE h s 0 (n - 1) := ⟨_, rfl⟩
   obtain ⟨v, hv⟩ : ∃ x, x = geV h s (n - 1) := ⟨_, rfl⟩
   rw [← hen, ← hv] at HE0 ⊢
   clear hen hv
   have HT : Hid (Calls Tryz.prog 79 #[.agg #[.slice A h.objs.length c, .int .i64 h.cap, .int .i64 h.last], .agg #[.slice A h.objs.length c, .int .i64 h.cap, .int .i64 h.last], .int .i64 en, .int .i64 v] w1 (RsH13 w1 h A c r)) := by
     show Calls _ _ _ _ _
     refine (rtook_any13 h h en v A A c c w1).mono ?_
     rintro e w' ⟨rfl, hb⟩
     refine ⟨?_, hb⟩
     rw [HE0.out]
     by_cases h0 : en = 0
     next =>
      rw [if_pos h0, if_neg (fun g => g h0)]
     next =>
      rw [if_neg h0, if_pos h0]; rfl
   obtain ⟨x0, x1, x2⟩ := HX1.out.c3
   go_wp2_with fail
   refine HT.out.mono ?_
   rintro e w2 ⟨rfl, hb⟩
   have HB2 := hid (then_w HB1.out hb)
   have HX2 := hid (HX1.out.later hb)
   have HR2 := hid (HR1.out.later hb)
   clear hb x0 x1 x2
   obtain ⟨x0, x1, x2⟩ := HX2.out.c3
   obtain ⟨k0, k1, k2⟩ := HR2.out.c3
   obtain ⟨f0, f1, f2⟩ := HR2.out.f3
   go_wp2_with fail
   have HK := HR2.out.s3 (.slice A h.objs.length c) (.int .i64 h.cap) (.int .i64 h.last)
   obtain ⟨r0, r1, r2⟩ := HK
   have HBE := below_s3 HB2.out HRW.out (.slice A h.objs.length c) (.int .i64 h.cap) (.int .i64 h.last)
   refine bodyPost_ret (v := .tuple #[.agg #[.slice A h.objs.length c, .int .i64 h.cap, .int .i64 h.last], .int .i64 r.2.1, .int .i64 r.2.2]) (by simp [results, Tryz.results43, go_sem, r0, r1, r2]) rfl ?_
   exact ⟨rfl, HBE⟩
set_option maxHeartbeats 1000000 in
theorem rparts25_any13 (h : Hp) (s a b : Int) (al : List Int) (SA : Option Addr) (da : Nat) (A : Option Addr) (c : Nat) (w : World) (hs : ObsR w A h.objs) (fit : h.Fit) (hsa : IntsR w SA al) (hal : al.length = 1) (ha : al[0]? = some a) :
    Calls Tryz.prog 43 #[.agg #[.slice A h.objs.length c, .int .i64 h.cap, .int .i64 h.last], .int .i64 25, .int .i64 s, .slice SA al.length da] w (RsH13 w h A c (pa13 h 25 s a b)) := by
  have HS := hid hs
  have HF := hid fit
  obtain ⟨ba, oa, rfl, hba, hca⟩ := hsa (by omega)
  have HY := hid (hca 0 a ha)
  have HBA := hid hba
  rw [hal]
  clear hs fit hsa hal ha hba hca
  obtain ⟨r, hr⟩ : ∃ r, r = pa13 h 25 s a b := ⟨_, rfl⟩
  rw [← hr]
  have HRR := hid hr
  clear hr
  obtain ⟨w0, hw0⟩ : ∃ u, u = (w.alloc (.cells #[Value.slice A h.objs.length c, Value.int .i64 h.cap, Value.int .i64 h.last] 24)).alloc (.cells #[.slice none 0 0, .int .i64 0, .int .i64 0] 24) := ⟨_, rfl⟩
  obtain ⟨bR, hbR⟩ : ∃ x, x = w.heap.size + 1 := ⟨_, rfl⟩
  have HB0 : Hid (Below w.heap.size w w0) := by show Below _ _ _; rw [hw0]; exact below_alloc2 w _ _
  have HX0 : Hid (Lies w0 w.heap.size 24 #[Value.slice A h.objs.length c, Value.int .i64 h.cap, Value.int .i64 h.last]) := by
    show Lies _ _ _ _
    rw [hw0]; exact (Lies.new _ _ _).alloc _
  have HR0 : Hid (Lies w0 bR 24 #[.slice none 0 0, .int .i64 0, .int .i64 0]) := by
    show Lies _ _ _ _
    have := Lies.new (w.alloc (.cells #[Value.slice A h.objs.length c, Value.int .i64 h.cap, Value.int .i64 h.last] 24)) 24 #[.slice none 0 0, .int .i64 0, .int .i64 0]
    rw [hw0, hbR]; simpa using this
  have HRW : Hid (w.heap.size ≤ bR) := by show _ ≤ _; omega
  have HNE : Hid (w.heap.size ≠ bR) := by show _ ≠ _; omega
  go_enter Tryz.func43, Tryz.ntmps43
  go_upto_region 1 with fail
  rw [← hw0, ← hbR]
  clear hw0 hbR
  have y0 : w0.cell? ⟨ba, oa, none⟩ = some (.int .i64 a) := by
    have := (HB0.out.cell (p := ⟨ba, oa + 0, none⟩) HBA.out).trans HY.out
    simpa using this
  obtain ⟨x0, x1, x2⟩ := HX0.out.c3
  go_wp2_with fail
  refine (rn_any a w0).mono ?_
  rintro e wa ⟨rfl, hw⟩
  rw [← hw]
  clear hw y0 x0 x1 x2
  cases hn : nB a
  next =>
   have HE : Hid (r = fa13 h) := by show _ = _; rw [HRR.out]; unfold pa13; rw [if_neg (by decide), if_pos hn]
   obtain ⟨n, hnv⟩ : ∃ n, n = nV a := ⟨_, rfl⟩
   rw [← hnv]
   clear hn hnv
   obtain ⟨x0, x1, x2⟩ := HX0.out.c3
   go_wp2_with fail
   refine (rfail_any13 h A c w0).mono ?_
   rintro e w1 ⟨rfl, hb⟩
   have HB1 := hid (then_w HB0.out hb)
   have HX1 := hid (HX0.out.later hb)
   have HR1 := hid (HR0.out.later hb)
   clear hb x0 x1 x2
   obtain ⟨x0, x1, x2⟩ := HX1.out.c3
   obtain ⟨k0, k1, k2⟩ := HR1.out.c3
   obtain ⟨f0, f1, f2⟩ := HR1.out.f3
   go_wp2_with fail
   have HK := HR1.out.s3 (.slice A h.objs.length c) (.int .i64 h.cap) (.int .i64 h.last)
   obtain ⟨r0, r1, r2⟩ := HK
   have HBE := below_s3 HB1.out HRW.out (.slice A h.objs.length c) (.int .i64 h.cap) (.int .i64 h.last)
   refine bodyPost_ret (v := .tuple #[.agg #[.slice A h.objs.length c, .int .i64 h.cap, .int .i64 h.last], .int .i64 (fa13 h).2.1, .int .i64 (fa13 h).2.2]) (by simp [results, Tryz.results43, go_sem, r0, r1, r2]) rfl ?_
   exact ⟨by rw [HE.out], HBE⟩
  next =>
   have HE0 : Hid (r = if plE h s 1 (nV a - 1) ≠ 0 then fa13 h else in13 h (byV h s (nV a - 1))) := by show _ = _; rw [HRR.out]; unfold pa13; rw [if_neg (by decide), if_neg (by rw [hn]; decide), if_neg (by decide), if_neg (by decide), if_pos rfl]
   have hbd := n_bd13 hn
   obtain ⟨n, hnv⟩ : ∃ n, n = nV a := ⟨_, rfl⟩
   rw [← hnv] at HE0 hbd ⊢
   have hw1 : IntKind.i64.wrap (n - 1) = n - 1 := IntWalk.i64_in _ (by omega)
   clear hn hnv HRR hbd
   obtain ⟨x0, x1, x2⟩ := HX0.out.c3
   go_wp2_with fail
   refine (rbyte_any h s (n - 1) A c w0 (HS.out.below HB0.out) HF.out).mono ?_
   rintro e w1 ⟨rfl, hb⟩
   have HB1 := hid (then_w HB0.out hb)
   have HX1 := hid (HX0.out.later hb)
   have HR1 := hid (HR0.out.later hb)
   clear hb x0 x1 x2 hw1
   obtain ⟨en, hen⟩ : ∃ x, x = plE h s 1 (n - 1) := ⟨_, rfl⟩
   obtain ⟨v, hv⟩ : ∃ x, x = byV h s (n - 1) := ⟨_, rfl⟩
   rw [← hen, ← hv] at HE0 ⊢
   have HVB : Hid (0 ≤ v ∧ v ≤ 255) := by show _ ∧ _; rw [hv]; exact byV_13 _ _ _
   have hw2 : IntKind.i64.wrap (2 * v) = 2 * v := IntWalk.i64_in _ (by have := HVB.out; omega)
   have hw3 : IntKind.i64.wrap (2 * v + 1) = 2 * v + 1 := IntWalk.i64_in _ (by have := HVB.out; omega)
   clear hen hv
   have HT : Hid (Calls Tryz.prog 79 #[.agg #[.slice A h.objs.length c, .int .i64 h.cap, .int .i64 h.last], .agg #[.slice A h.objs.length c, .int .i64 h.cap, .int .i64 h.last], .int .i64 en, .int .i64 (2 * v + 1)] w1 (RsH13 w1 h A c r)) := by
     show Calls _ _ _ _ _
     refine (rtook_any13 h h en (2 * v + 1) A A c c w1).mono ?_
     rintro e w' ⟨rfl, hb⟩
     refine ⟨?_, hb⟩
     rw [HE0.out]
     by_cases h0 : en = 0
     next =>
      rw [if_pos h0, if_neg (fun g => g h0)]; unfold in13; rw [if_pos (smB_iff.2 (by have := HVB.out; omega))]
     next =>
      rw [if_neg h0, if_pos h0]; rfl
   obtain ⟨x0, x1, x2⟩ := HX1.out.c3
   go_wp2_with fail
   refine HT.out.mono ?_
   rintro e w2 ⟨rfl, hb⟩
   have HB2 := hid (then_w HB1.out hb)
   have HX2 := hid (HX1.out.later hb)
   have HR2 := hid (HR1.out.later hb)
   clear hb x0 x1 x2
   obtain ⟨x0, x1, x2⟩ := HX2.out.c3
   obtain ⟨k0, k1, k2⟩ := HR2.out.c3
   obtain ⟨f0, f1, f2⟩ := HR2.out.f3
   go_wp2_with fail
   have HK := HR2.out.s3 (.slice A h.objs.length c) (.int .i64 h.cap) (.int .i64 h.last)
   obtain ⟨r0, r1, r2⟩ := HK
   have HBE := below_s3 HB2.out HRW.out (.slice A h.objs.length c) (.int .i64 h.cap) (.int .i64 h.last)
   refine bodyPost_ret (v := .tuple #[.agg #[.slice A h.objs.length c, .int .i64 h.cap, .int .i64 h.last], .int .i64 r.2.1, .int .i64 r.2.2]) (by simp [results, Tryz.results43, go_sem, r0, r1, r2]) rfl ?_
   exact ⟨rfl, HBE⟩
end Go.Proofs.YtnilempeldlieaaGreat
namespace Go.Proofs.YtnilempeldlieaaGreat
open Go.RowKit
set_option maxRecDepth 100000
def kd12 (h : Hp) (v k : Int) : Bool := refB h.objs.length v && decide ((obAt h v).kind = k)
def sls12 (h : Hp) (v : Int) : List Int := if kd12 h v 0 then (obAt h v).slots else []
def sm12 (v most : Int) : Int := if nB v = true ∧ 0 ≤ nV v ∧ nV v ≤ most then nV v else -1
theorem kd_ref12 {h : Hp} {v k : Int} (e : kd12 h v k = true) : refB h.objs.length v = true ∧ (obAt h v).kind = k := by
  unfold kd12 at e
  simp only [Bool.and_eq_true, decide_eq_true_eq] at e
  exact e
theorem ob_read12 {h : Hp} {v : Int} {A : Option Addr} {w w' : World} (hs : ObsR w A h.objs) (hb : Below w.heap.size w w') (hr : refB h.objs.length v = true) :
    ∃ (i : Nat) (b off : Nat) (S : Option Addr) (d : Nat), refI h.objs.length v = i ∧ i < h.objs.length ∧ A = some ⟨b, off, none⟩ ∧ ObC w' b (off + i * 6) S d (obAt h v) ∧ IntsR w' S (obAt h v).slots ∧ (S = none → d = 0) ∧ b < w.heap.size := by
  obtain ⟨i, hi, hv, ho⟩ := obAt_get hr
  obtain ⟨b, off, rfl, hlt, hc⟩ := hs (by omega)
  obtain ⟨S, d, h1, h2, -, h4⟩ := hc i _ ho
  exact ⟨i, b, off, S, d, by rw [refI_nonneg hr, hv], hi, rfl, h1.below hlt hb, h2.below hb, h4, hlt⟩
theorem refI_no12 {n : Nat} {v : Int} (h : refB n v = false) : refI n v = -1 := by unfold refI; rw [if_neg (by rw [h]; decide)]
set_option maxHeartbeats 1000000 in
theorem rkind_any12 (h : Hp) (v k : Int) (A : Option Addr) (c : Nat) (w : World) (hs : ObsR w A h.objs) :
    Calls Tryz.prog 121 #[.agg #[.slice A h.objs.length c, .int .i64 h.cap, .int .i64 h.last], .int .i64 v, .int .i64 k] w fun e w' => e = .returned (.bool (kd12 h v k)) ∧ Below w.heap.size w w' := by
  obtain ⟨w0, hw0⟩ : ∃ w0, w0 = w.alloc (.cells #[Value.slice A h.objs.length c, Value.int .i64 h.cap, Value.int .i64 h.last] 24) := ⟨_, rfl⟩
  have HB0 : Hid (Below w.heap.size w w0) := by show Below _ _ _; rw [hw0]; exact below_alloc _ _
  have HX0 : Hid (Lies w0 w.heap.size 24 #[Value.slice A h.objs.length c, Value.int .i64 h.cap, Value.int .i64 h.last]) := by
    show Lies _ _ _ _
    rw [hw0]; exact Lies.new _ _ _
  have HS := hid hs
  clear hs
  obtain ⟨r, hr⟩ : ∃ r, r = kd12 h v k := ⟨_, rfl⟩
  rw [← hr]
  have HR := hid hr
  clear hr
  go_enter Tryz.func121, Tryz.ntmps121
  go_upto_region 1 with fail
  rw [← hw0]
  clear hw0
  obtain ⟨x0, x1, x2⟩ := HX0.out.c3
  go_wp2_with fail
  refine (rref_any h v A c _).mono ?_
  rintro e w1 ⟨rfl, hb⟩
  have HB1 := hid (HB0.out.trans (hb.mono HB0.out.size))
  have HX1 := hid (HX0.out.later hb)
  clear hb x0 x1 x2
  cases hr : refB h.objs.length v
  next =>
   have E1 := refI_no12 hr
   have HR2 : Hid (r = false) := by show _ = _; rw [HR.out]; unfold kd12; rw [hr]; rfl
   rw [E1]
   clear hr E1
   go_wp2_with fail
   go_ret
   exact ⟨by rw [HR2.out]; rfl, HB1.out⟩
  next =>
   obtain ⟨i, b, off, S, d, hi, hil, rfl, hc, hint, -, -⟩ := ob_read12 HS.out HB1.out hr
   have HR2 : Hid (r = decide ((obAt h v).kind = k)) := by show _ = _; rw [HR.out]; unfold kd12; rw [hr]; rfl
   have hilI : (i : Int) < (h.objs.length : Int) := by omega
   have hi0 : (0 : Int) ≤ (i : Int) := by omega
   have y1 := hc.c1
   obtain ⟨kk, hkk⟩ : ∃ kk, kk = (obAt h v).kind := ⟨_, rfl⟩
   rw [← hkk] at y1 HR2
   rw [hi]
   obtain ⟨x0, x1, x2⟩ := HX1.out.c3
   clear hr hi hc hint hkk
   by_cases hk : kk = k
   next =>
    have hkB : (kk == k) = true := by rw [hk]; exact beq_self_eq_true k
    go_wp2_with fail
    go_ret
    exact ⟨by rw [HR2.out]; first | rfl | simp [hk], HB1.out⟩
   next =>
    have hkB : (kk == k) = false := beq_eq_false_iff_ne.2 hk
    go_wp2_with fail
    go_ret
    exact ⟨by rw [HR2.out]; first | rfl | simp [hk], HB1.out⟩
theorem rsmall_any12 (v most : Int) (w : World) : Calls Tryz.prog 84 #[.int .i64 v, .int .i64 most] w fun e w' => e = .returned (.int .i64 (sm12 v most)) ∧ w = w' := by
  obtain ⟨r, hr⟩ : ∃ r, r = sm12 v most := ⟨_, rfl⟩
  rw [← hr]
  have HR : Hid (r = if nB v = true ∧ 0 ≤ nV v ∧ nV v ≤ most then nV v else -1) := hr
  clear hr
  cases hn : nB v
  next =>
   have HR2 : Hid (r = -1) := by show _ = _; rw [HR.out, if_neg (fun f => by rw [hn] at f; cases f.1)]
   rw [HR2.out]
   go_enter Tryz.func84, Tryz.ntmps84
   go_wp2_with fail
   refine (rn_any v _).mono ?_
   rintro e w1 ⟨rfl, rfl⟩
   rw [hn]
   go_wp2_with fail
   go_ret
   exact ⟨rfl, rfl⟩
  next =>
   have HN := hid hn
   obtain ⟨n, hnv⟩ : ∃ n, n = nV v := ⟨_, rfl⟩
   rw [hn, ← hnv] at HR
   have HNV := hid hnv
   clear hn hnv
   by_cases h0 : 0 ≤ n
   next =>
    by_cases h1 : n ≤ most
    next =>
     have HR2 : Hid (r = n) := by show _ = _; rw [HR.out, if_pos ⟨rfl, h0, h1⟩]
     rw [HR2.out]
     go_enter Tryz.func84, Tryz.ntmps84
     go_wp2_with fail
     refine (rn_any v _).mono ?_
     rintro e w1 ⟨rfl, rfl⟩
     rw [HN.out, ← HNV.out]
     go_wp2_with fail
     go_ret
     exact ⟨rfl, rfl⟩
    next =>
     have HR2 : Hid (r = -1) := by show _ = _; rw [HR.out, if_neg (fun f => h1 f.2.2)]
     rw [HR2.out]
     go_enter Tryz.func84, Tryz.ntmps84
     go_wp2_with fail
     refine (rn_any v _).mono ?_
     rintro e w1 ⟨rfl, rfl⟩
     rw [HN.out, ← HNV.out]
     go_wp2_with fail
     go_ret
     exact ⟨rfl, rfl⟩
   next =>
    have HR2 : Hid (r = -1) := by show _ = _; rw [HR.out, if_neg (fun f => h0 f.2.1)]
    rw [HR2.out]
    go_enter Tryz.func84, Tryz.ntmps84
    go_wp2_with fail
    refine (rn_any v _).mono ?_
    rintro e w1 ⟨rfl, rfl⟩
    rw [HN.out, ← HNV.out]
    go_wp2_with fail
    go_ret
    exact ⟨rfl, rfl⟩
def SlP12 (w : World) (h : Hp) (v : Int) (e : Ending) (w' : World) : Prop := ∃ S d, e = .returned (.slice S (sls12 h v).length d) ∧ IntsR w' S (sls12 h v) ∧ (S = none → d = 0) ∧ Below w.heap.size w w'
set_option maxHeartbeats 1000000 in
theorem rslots_any12 (h : Hp) (v : Int) (A : Option Addr) (c : Nat) (w : World) (hs : ObsR w A h.objs) : Calls Tryz.prog 85 #[.agg #[.slice A h.objs.length c, .int .i64 h.cap, .int .i64 h.last], .int .i64 v] w (SlP12 w h v) := by
  obtain ⟨w0, hw0⟩ : ∃ w0, w0 = w.alloc (.cells #[Value.slice A h.objs.length c, Value.int .i64 h.cap, Value.int .i64 h.last] 24) := ⟨_, rfl⟩
  have HB0 : Hid (Below w.heap.size w w0) := by show Below _ _ _; rw [hw0]; exact below_alloc _ _
  have HX0 : Hid (Lies w0 w.heap.size 24 #[Value.slice A h.objs.length c, Value.int .i64 h.cap, Value.int .i64 h.last]) := by
    show Lies _ _ _ _
    rw [hw0]; exact Lies.new _ _ _
  have HS := hid hs
  clear hs
  go_enter Tryz.func85, Tryz.ntmps85
  go_upto_region 1 with fail
  rw [← hw0]
  clear hw0
  obtain ⟨x0, x1, x2⟩ := HX0.out.c3
  go_wp2_with fail
  refine (rkind_any12 h v 0 A c _ (HS.out.below HB0.out)).mono ?_
  rintro e w1 ⟨rfl, hb⟩
  have HB1 := hid (HB0.out.trans (hb.mono HB0.out.size))
  have HX1 := hid (HX0.out.later hb)
  clear hb x0 x1 x2
  cases hk : kd12 h v 0
  next =>
   have EL : Hid (sls12 h v = []) := by show _ = _; unfold sls12; rw [if_neg (by rw [hk]; decide)]
   clear hk
   go_wp2_with fail
   go_ret
   exact ⟨none, 0, by rw [EL.out]; rfl, by rw [EL.out]; exact fun h => absurd h (Nat.lt_irrefl 0), fun _ => rfl, HB1.out⟩
  next =>
   have EL : Hid (sls12 h v = (obAt h v).slots) := by show _ = _; unfold sls12; rw [if_pos hk]
   obtain ⟨hr, -⟩ := kd_ref12 hk
   obtain ⟨i, b, off, S, d, hi, hil, rfl, hc, hint, hnil, -⟩ := ob_read12 HS.out HB1.out hr
   have hilI : (i : Int) < (h.objs.length : Int) := by omega
   have hi0 : (0 : Int) ≤ (i : Int) := by omega
   have y2 := hc.c2
   have HI := hid hi
   have HIN := hid hint
   have HNL := hid hnil
   obtain ⟨x0, x1, x2⟩ := HX1.out.c3
   clear hk hr hi hc hint hnil
   go_upto_region 3 with fail
   refine wp_region_held_drew (S := (fun w' => w'.cell? ⟨w.heap.size, 0, none⟩ = some (.slice (some ⟨b, off, none⟩) h.objs.length c) ∧ w'.cell? ⟨w.heap.size, 1, none⟩ = some (.int .i64 h.cap) ∧ w'.cell? ⟨w.heap.size, 2, none⟩ = some (.int .i64 h.last) ∧ w'.cell? ⟨b, off + i * 6 + 2, none⟩ = some (.slice S (obAt h v).slots.length d))) (by kernel_rfl) ?_ (fun hH0 => ?_)
   next =>
    exact ⟨x0, x1, x2, y2⟩
   refine tkJ 0 ⟨some 9, .fieldAddr 24 (.tmp 2) 0, 0, "ref.go:22", #[], none⟩ ?_
   refine tkJ 1 ⟨some 10, .load 22 (.tmp 9), 22, "ref.go:22", #[⟨0, .data⟩], none⟩ ?_
   refine tkJ 2 ⟨some 11, .load 24 (.tmp 2), 24, "ref.go:22", #[], none⟩ ?_
   refine tkJ 3 ⟨some 12, .move (.tmp 1), 3, "ref.go:22", #[], none⟩ ?_
   refine rdJ 4 ⟨some 13, .call { callee := .value (.func 32), args := #[.tmp 11, .tmp 12], argTypes := #[24, 3] }, 3, "ref.go:22", #[⟨2, .data⟩, ⟨3, .data⟩], none⟩ fun K hK => ?_
   go_simp
   go_at_call 32
   refine (rref_any h v _ c _).mono ?_
   rintro e u1 ⟨rfl, hb⟩
   rw [HI.out]
   have HV1 := hid (then_w (Below.refl w1.heap.size w1).drew hb)
   refine hK.out _ _ ?_ (fun hH1 => ?_)
   next =>
    exact ⟨cell_later hb hH0.1, cell_later hb hH0.2.1, cell_later hb hH0.2.2.1, cell_later hb hH0.2.2.2⟩
   clear hK K
   try simp only [apt12]
   clear hb
   refine tkJ 5 ⟨some 14, .indexAddr 22 (.tmp 10) (.tmp 13), 0, "ref.go:22", #[⟨1, .data⟩, ⟨4, .data⟩], none⟩ ?_
   refine tkJ 6 ⟨some 15, .fieldAddr 41 (.tmp 14) 2, 0, "ref.go:22", #[⟨5, .data⟩], none⟩ ?_
   refine tkJ 7 ⟨some 16, .load 34 (.tmp 15), 34, "ref.go:22", #[⟨6, .data⟩], none⟩ ?_
   refine tkJ 8 ⟨some 4, .assign (.tmp 16), 34, "ref.go:22", #[⟨7, .data⟩, ⟨4, .chain⟩, ⟨0, .phase⟩, ⟨1, .phase⟩, ⟨2, .phase⟩, ⟨3, .phase⟩, ⟨4, .phase⟩, ⟨5, .phase⟩, ⟨6, .phase⟩, ⟨7, .phase⟩], none⟩ ?_
   refine wpAnyH_done (by kernel_rfl) ?_ _
   go_wp2_with fail
   go_ret
   exact ⟨S, d, by rw [EL.out]; rfl, by rw [EL.out]; exact HIN.out.below HV1.out, HNL.out, then_w HB1.out HV1.out⟩
end Go.Proofs.YtnilempeldlieaaGreat
