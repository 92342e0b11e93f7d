/- The document on primitives: took, alloc. -/
import Derived.Test.YtnilempeldlieaaGreatJ10
import Derived.Test.YtnilempeldlieaaGreatJRA
namespace Go.Proofs.YtnilempeldlieaaGreat
open Go.RowKit Flt
set_option maxRecDepth 100000
def RsP13 (w : World) (h : Hp) (A : Option Addr) (c : Nat) (r : Rs) (e : Ending) (w' : World) : Prop := Below w.heap.size w w' ∧ ((r.1 = h ∧ e = .returned (.tuple #[.agg #[.slice A h.objs.length c, .int .i64 h.cap, .int .i64 h.last], .int .i64 r.2.1, .int .i64 r.2.2])) ∨ ∃ A' c' ls, e = .returned (.tuple #[.agg #[.slice A' r.1.objs.length c', .int .i64 r.1.cap, .int .i64 r.1.last], .int .i64 r.2.1, .int .i64 r.2.2]) ∧ ls.map (·.o) = r.1.objs ∧ OwnH w' w.heap.size A' c' ls)
theorem RsH13.p {w w' : World} {h : Hp} {A : Option Addr} {c : Nat} {r : Rs} {e : Ending} (p : RsH13 w h A c r e w') (hr : r.1 = h) : RsP13 w h A c r e w' := ⟨p.2, .inl ⟨hr, p.1⟩⟩
theorem OwnH.s3_13 {X : World} {bR base c : Nat} {A : Option Addr} {ls : List LO} {a0 a1 a2 : Value} (ho : OwnH X base A c ls) (hK : Lies X bR 24 #[a0, a1, a2]) (v0 v1 v2 : Value) :
    OwnH (((X.setCell ⟨bR, 0, none⟩ v0).setCell ⟨bR, 1, none⟩ v1).setCell ⟨bR, 2, none⟩ v2) base A c ls :=
  ((ho.off hK 0 v0).off (hK.set_ 0 v0) 1 v1).off ((hK.set_ 0 v0).set_ 1 v1) 2 v2
theorem rtook_any13 (h g : Hp) (en v : Int) (A Ag : Option Addr) (c cg : Nat) (w : World) :
    Calls Tryz.prog 79 #[.agg #[.slice A h.objs.length c, .int .i64 h.cap, .int .i64 h.last], .agg #[.slice Ag g.objs.length cg, .int .i64 g.cap, .int .i64 g.last], .int .i64 en, .int .i64 v] w fun e w' => e = .returned (if en = 0 then .tuple #[.agg #[.slice Ag g.objs.length cg, .int .i64 g.cap, .int .i64 g.last], .int .i64 v, .int .i64 0] else .tuple #[.agg #[.slice A h.objs.length c, .int .i64 h.cap, .int .i64 h.last], .int .i64 0, .int .i64 130]) ∧ Below w.heap.size w w' := by
  obtain ⟨w0, hw0⟩ : ∃ u, u = ((w.alloc (.cells #[Value.slice A h.objs.length c, Value.int .i64 h.cap, Value.int .i64 h.last] 24)).alloc (.cells #[Value.slice Ag g.objs.length cg, Value.int .i64 g.cap, Value.int .i64 g.last] 24)).alloc (.cells #[.slice none 0 0, .int .i64 0, .int .i64 0] 24) := ⟨_, rfl⟩
  obtain ⟨bR, hbR⟩ : ∃ x, x = w.heap.size + 2 := ⟨_, rfl⟩
  have HB0 : Hid (Below w.heap.size w w0) := by show Below _ _ _; rw [hw0]; exact (below_alloc2 w _ _).trans ((below_alloc _ _).mono (by simp; omega))
  have HX0 : Hid (Lies w0 w.heap.size 24 #[Value.slice A h.objs.length c, Value.int .i64 h.cap, Value.int .i64 h.last]) := by
    show Lies _ _ _ _
    rw [hw0]; exact ((Lies.new _ _ _).alloc _).alloc _
  have HG0 : Hid (Lies w0 (w.heap.size + 1) 24 #[Value.slice Ag g.objs.length cg, Value.int .i64 g.cap, Value.int .i64 g.last]) := by
    show Lies _ _ _ _
    have := (Lies.new (w.alloc (.cells #[Value.slice A h.objs.length c, Value.int .i64 h.cap, Value.int .i64 h.last] 24)) 24 #[Value.slice Ag g.objs.length cg, Value.int .i64 g.cap, Value.int .i64 g.last]).alloc (.cells #[.slice none 0 0, .int .i64 0, .int .i64 0] 24)
    rw [hw0]; simpa using this
  have HR0 : Hid (Lies w0 bR 24 #[.slice none 0 0, .int .i64 0, .int .i64 0]) := by
    show Lies _ _ _ _
    have := Lies.new ((w.alloc (.cells #[Value.slice A h.objs.length c, Value.int .i64 h.cap, Value.int .i64 h.last] 24)).alloc (.cells #[Value.slice Ag g.objs.length cg, Value.int .i64 g.cap, Value.int .i64 g.last] 24)) 24 #[.slice none 0 0, .int .i64 0, .int .i64 0]
    rw [hw0, hbR]; simpa using this
  have HRW : Hid (w.heap.size ≤ bR) := by show _ ≤ _; omega
  obtain ⟨r, hr⟩ : ∃ r, r = (if en = 0 then Value.tuple #[.agg #[.slice Ag g.objs.length cg, .int .i64 g.cap, .int .i64 g.last], .int .i64 v, .int .i64 0] else .tuple #[.agg #[.slice A h.objs.length c, .int .i64 h.cap, .int .i64 h.last], .int .i64 0, .int .i64 130]) := ⟨_, rfl⟩
  rw [← hr]
  have HRR := hid hr
  clear hr
  go_enter Tryz.func79, Tryz.ntmps79
  go_upto_region 1 with fail
  rw [← hw0, ← hbR]
  clear hw0 hbR
  by_cases h0 : en = 0
  next =>
   subst h0
   have HE : Hid (r = .tuple #[.agg #[.slice Ag g.objs.length cg, .int .i64 g.cap, .int .i64 g.last], .int .i64 v, .int .i64 0]) := by show _ = _; rw [HRR.out, if_pos rfl]
   obtain ⟨x0, x1, x2⟩ := HG0.out.c3
   obtain ⟨k0, k1, k2⟩ := HR0.out.c3
   obtain ⟨f0, f1, f2⟩ := HR0.out.f3
   go_wp2_with fail
   have HK := HR0.out.s3 (.slice Ag g.objs.length cg) (.int .i64 g.cap) (.int .i64 g.last)
   obtain ⟨r0, r1, r2⟩ := HK
   have HBE := below_s3 HB0.out HRW.out (.slice Ag g.objs.length cg) (.int .i64 g.cap) (.int .i64 g.last)
   refine bodyPost_ret (v := .tuple #[.agg #[.slice Ag g.objs.length cg, .int .i64 g.cap, .int .i64 g.last], .int .i64 v, .int .i64 0]) (by simp [results, Tryz.results79, go_sem, r0, r1, r2]) rfl ?_
   exact ⟨by rw [HE.out], HBE⟩
  next =>
   have hnb : (en != 0) = true := by simpa using h0
   have HE : Hid (r = .tuple #[.agg #[.slice A h.objs.length c, .int .i64 h.cap, .int .i64 h.last], .int .i64 0, .int .i64 130]) := by show _ = _; rw [HRR.out, if_neg h0]
   clear h0
   obtain ⟨x0, x1, x2⟩ := HX0.out.c3
   go_wp2_with fail
   refine (rfail_any13 h A c w0).mono ?_
   rintro e w1 ⟨rfl, hb⟩
   have HB1 := hid (then_w HB0.out hb)
   have HX1 := hid (HX0.out.later hb)
   have HR1 := hid (HR0.out.later hb)
   clear hb x0 x1 x2
   obtain ⟨x0, x1, x2⟩ := HX1.out.c3
   obtain ⟨k0, k1, k2⟩ := HR1.out.c3
   obtain ⟨f0, f1, f2⟩ := HR1.out.f3
   go_wp2_with fail
   have HK := HR1.out.s3 (.slice A h.objs.length c) (.int .i64 h.cap) (.int .i64 h.last)
   obtain ⟨r0, r1, r2⟩ := HK
   have HBE := below_s3 HB1.out HRW.out (.slice A h.objs.length c) (.int .i64 h.cap) (.int .i64 h.last)
   refine bodyPost_ret (v := .tuple #[.agg #[.slice A h.objs.length c, .int .i64 h.cap, .int .i64 h.last], .int .i64 (fa13 h).2.1, .int .i64 (fa13 h).2.2]) (by simp [results, Tryz.results79, go_sem, r0, r1, r2]) rfl ?_
   exact ⟨by rw [HE.out]; rfl, HBE⟩
theorem ralloc_any13 (h : Hp) (cl kind size : Int) (A : Option Addr) (c : Nat) (w : World) (hs : ObsR w A h.objs) (fit : h.Fit) :
    Calls Tryz.prog 86 #[.agg #[.slice A h.objs.length c, .int .i64 h.cap, .int .i64 h.last], .int .i64 cl, .int .i64 kind, .int .i64 size] w (RsP13 w h A c (al13 h cl kind size)) := by
  have HS := hid hs
  have HF := hid fit
  clear hs fit
  obtain ⟨r, hr⟩ : ∃ r, r = al13 h cl kind size := ⟨_, rfl⟩
  rw [← hr]
  obtain ⟨en, hen⟩ : ∃ x, x = roE h cl kind size := ⟨_, rfl⟩
  have HRR : Hid (r = if en = 0 then (alR h cl kind size, alV h cl kind size, 0) else if en = 30 then (h, 0, 30) else fa13 h) := by show _ = _; rw [hr, hen]; rfl
  have HEN := hid hen
  clear hr hen
  obtain ⟨w0, hw0⟩ : ∃ u, u = (w.alloc (.cells #[Value.slice A h.objs.length c, Value.int .i64 h.cap, Value.int .i64 h.last] 24)).alloc (.cells #[.slice none 0 0, .int .i64 0, .int .i64 0] 24) := ⟨_, rfl⟩
  obtain ⟨bR, hbR⟩ : ∃ x, x = w.heap.size + 1 := ⟨_, rfl⟩
  have HB0 : Hid (Below w.heap.size w w0) := by show Below _ _ _; rw [hw0]; exact below_alloc2 w _ _
  have HX0 : Hid (Lies w0 w.heap.size 24 #[Value.slice A h.objs.length c, Value.int .i64 h.cap, Value.int .i64 h.last]) := by
    show Lies _ _ _ _
    rw [hw0]; exact (Lies.new _ _ _).alloc _
  have HR0 : Hid (Lies w0 bR 24 #[.slice none 0 0, .int .i64 0, .int .i64 0]) := by
    show Lies _ _ _ _
    have := Lies.new (w.alloc (.cells #[Value.slice A h.objs.length c, Value.int .i64 h.cap, Value.int .i64 h.last] 24)) 24 #[.slice none 0 0, .int .i64 0, .int .i64 0]
    rw [hw0, hbR]; simpa using this
  have HRW : Hid (w.heap.size ≤ bR) := by show _ ≤ _; omega
  have HNE : Hid (w.heap.size ≠ bR) := by show _ ≠ _; omega
  go_enter Tryz.func86, Tryz.ntmps86
  go_upto_region 1 with fail
  rw [← hw0, ← hbR]
  clear hw0 hbR
  obtain ⟨x0, x1, x2⟩ := HX0.out.c3
  go_wp2_with fail
  refine (ralloc_own13 h cl kind size A c w0 (HS.out.below HB0.out) HF.out).mono ?_
  rintro e w1 ⟨A1, c1, rfl, -, hb, how⟩
  rw [← HEN.out] at how ⊢
  have HOW := hid how
  have HB1 := hid (then_w HB0.out hb)
  have HX1 := hid (HX0.out.later hb)
  have HR1 := hid (HR0.out.later hb)
  have HW1 := hid hb.size
  clear hb how x0 x1 x2
  go_upto_region 2 with fail
  obtain ⟨g, hg⟩ : ∃ g, g = alR h cl kind size := ⟨_, rfl⟩
  obtain ⟨v, hv⟩ : ∃ v, v = alV h cl kind size := ⟨_, rfl⟩
  rw [← hg, ← hv] at HRR ⊢
  rw [← hg] at HOW
  clear hg hv
  obtain ⟨w2, hw⟩ : ∃ x, x = w1.alloc (.cells #[Value.slice A1 g.objs.length c1, Value.int .i64 g.cap, Value.int .i64 g.last] 24) := ⟨_, rfl⟩
  obtain ⟨bG, hbG⟩ : ∃ x, x = w1.heap.size := ⟨_, rfl⟩
  have HG2 : Hid (Lies w2 bG 24 #[Value.slice A1 g.objs.length c1, Value.int .i64 g.cap, Value.int .i64 g.last]) := by show Lies _ _ _ _; rw [hw, hbG]; exact Lies.new _ _ _
  have hb : Below w1.heap.size w1 w2 := by rw [hw]; exact below_alloc _ _
  have HB2 := hid (then_w HB1.out hb)
  have HX2 := hid (HX1.out.later hb)
  have HR2 := hid (HR1.out.later hb)
  have HOW2 : Hid (en = 0 → ∃ ls, ls.map (·.o) = g.objs ∧ OwnH w2 w.heap.size A1 c1 ls) := fun e => by
    obtain ⟨ls, h1, h2⟩ := HOW.out e
    exact ⟨ls, h1, (h2.later hb).lower HB0.out.size⟩
  rw [← hw, ← hbG]
  clear hw hbG hb HOW
  by_cases h30 : en = 30
  next =>
   have HE : Hid (r = (h, 0, 30)) := by show _ = _; rw [HRR.out, if_neg (by omega), if_pos h30]
   subst h30
   obtain ⟨x0, x1, x2⟩ := HX2.out.c3
   obtain ⟨k0, k1, k2⟩ := HR2.out.c3
   obtain ⟨f0, f1, f2⟩ := HR2.out.f3
   go_wp2_with fail
   have HK := HR2.out.s3 (.slice A h.objs.length c) (.int .i64 h.cap) (.int .i64 h.last)
   obtain ⟨r0, r1, r2⟩ := HK
   have HBE := below_s3 HB2.out HRW.out (.slice A h.objs.length c) (.int .i64 h.cap) (.int .i64 h.last)
   refine bodyPost_ret (v := .tuple #[.agg #[.slice A h.objs.length c, .int .i64 h.cap, .int .i64 h.last], .int .i64 0, .int .i64 30]) (by simp [results, Tryz.results86, go_sem, r0, r1, r2]) rfl ?_
   rw [HE.out]
   exact ⟨HBE, .inl ⟨rfl, rfl⟩⟩
  next =>
   have hb30 : (en == 30) = false := by simpa using h30
   by_cases h0 : en = 0
   next =>
    have HE : Hid (r = (g, v, 0)) := by show _ = _; rw [HRR.out, if_pos h0]
    obtain ⟨ls, hm, ho⟩ := HOW2.out h0
    have HM := hid hm
    have HO := hid ho
    subst h0
    clear hm ho
    obtain ⟨x0, x1, x2⟩ := HG2.out.c3
    obtain ⟨k0, k1, k2⟩ := HR2.out.c3
    obtain ⟨f0, f1, f2⟩ := HR2.out.f3
    go_wp2_with fail
    have HK := HR2.out.s3 (.slice A1 g.objs.length c1) (.int .i64 g.cap) (.int .i64 g.last)
    obtain ⟨r0, r1, r2⟩ := HK
    have HBE := below_s3 HB2.out HRW.out (.slice A1 g.objs.length c1) (.int .i64 g.cap) (.int .i64 g.last)
    refine bodyPost_ret (v := .tuple #[.agg #[.slice A1 g.objs.length c1, .int .i64 g.cap, .int .i64 g.last], .int .i64 v, .int .i64 0]) (by simp [results, Tryz.results86, go_sem, r0, r1, r2]) rfl ?_
    rw [HE.out]
    exact ⟨HBE, .inr ⟨A1, c1, ls, rfl, HM.out, HO.out.s3_13 HR2.out _ _ _⟩⟩
   next =>
    have hnb : (en != 0) = true := by simpa using h0
    have HE : Hid (r = fa13 h) := by show _ = _; rw [HRR.out, if_neg h0, if_neg h30]
    clear h0 h30
    obtain ⟨x0, x1, x2⟩ := HX2.out.c3
    go_wp2_with fail
    refine (rfail_any13 h A c w2).mono ?_
    rintro e w3 ⟨rfl, hb⟩
    have HB3 := hid (then_w HB2.out hb)
    have HX3 := hid (HX2.out.later hb)
    have HR3 := hid (HR2.out.later hb)
    clear hb x0 x1 x2
    obtain ⟨x0, x1, x2⟩ := HX3.out.c3
    obtain ⟨k0, k1, k2⟩ := HR3.out.c3
    obtain ⟨f0, f1, f2⟩ := HR3.out.f3
    go_wp2_with fail
    have HK := HR3.out.s3 (.slice A h.objs.length c) (.int .i64 h.cap) (.int .i64 h.last)
    obtain ⟨r0, r1, r2⟩ := HK
    have HBE := below_s3 HB3.out HRW.out (.slice A h.objs.length c) (.int .i64 h.cap) (.int .i64 h.last)
    refine bodyPost_ret (v := .tuple #[.agg #[.slice A h.objs.length c, .int .i64 h.cap, .int .i64 h.last], .int .i64 (fa13 h).2.1, .int .i64 (fa13 h).2.2]) (by simp [results, Tryz.results86, go_sem, r0, r1, r2]) rfl ?_
    rw [HE.out]
    exact ⟨HBE, .inl ⟨rfl, rfl⟩⟩
end Go.Proofs.YtnilempeldlieaaGreat
