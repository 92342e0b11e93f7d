/- What is put at a place, by primitives: mathematics. PrimSlots: the law. An array of two ints, opened. PrimSlots returns true: for every heap, every value and every place and value that the row lets in, on every machine; no further condition. -/
import Derived.Test.YtjhkdehngdmobaaGreatLB13
import Derived.Test.YtjhkdehngdmobaaGreatOW13
import Derived.Test.YtjhkdehngdmobaaGreatRows
import Derived.Test.YtjhkdehngdmobaaGreatLP
import Derived.ProofKit
import Derived.OpenShut
namespace Go.Proofs.YtjhkdehngdmobaaGreat
open Go.RowKit Flt
theorem num13 {x : Int} (h0 : -1000 ≤ x) (h1 : x ≤ 1000) : nB (2 * x + 1) = true ∧ nV (2 * x + 1) = x ∧ ∀ n, hasB n (2 * x + 1) = true := by
  have e : (2 * x + 1) / 2 = x := by omega
  have hb : nB (2 * x + 1) = true := by
    unfold nB
    rw [e, odB_iff.2 (by omega), smB_iff.2 (by omega)]; rfl
  exact ⟨hb, by unfold nV; rw [if_pos hb, e], fun n => by unfold hasB; rw [hb]; rfl⟩
structure Slt13 (h g : Hp) (s k x old n : Int) : Prop where
  s1 : do13 h 9 s [2 * k + 1, x] = (g, x, 0)
  s2 : do13 h 8 s [2 * k + 1] = (h, old, 0)
  s3 : do13 h 10 s [] = (h, 2 * n + 1, 0)
  s4 : do13 g 8 s [2 * k + 1] = (g, x, 0)
  s5 : do13 g 9 s [2 * k + 1, old] = (h, old, 0)
  lo : 1 ≤ k
  hi : k ≤ n
  fit : g.Fit
  wd : (∀ o ∈ h.objs, In64 o.bits) → ∀ o ∈ g.objs, In64 o.bits
theorem do9_13 {h : Hp} {s k x : Int} (hm : mayB h = true) (hl : 12 ≤ h.objs.length) (hs : hasB h.objs.length s = true) (hx : hasB h.objs.length x = true) (k0 : -1000 ≤ k) (k1 : k ≤ 1000) :
    do13 h 9 s [2 * k + 1, x] = if setE h s (k - 1) x ≠ 0 then fa13 h else (setR h s (k - 1) x, x, 0) := by
  obtain ⟨n1, n2, n3⟩ := num13 k0 k1
  rw [do_may13 hm hl hs (by simp [n3, hx]) (show ar13 9 = some 2 by decide)]
  show pa13 h 9 s (2 * k + 1) x = _
  unfold pa13
  rw [if_neg (by decide), if_neg (by rw [n1]; decide), if_neg (by decide), if_pos rfl, n2]
theorem do8_13 {h : Hp} {s k : Int} (hm : mayB h = true) (hl : 12 ≤ h.objs.length) (hs : hasB h.objs.length s = true) (k0 : -1000 ≤ k) (k1 : k ≤ 1000) :
    do13 h 8 s [2 * k + 1] = if plE h s 0 (k - 1) ≠ 0 then fa13 h else (h, geV h s (k - 1), 0) := by
  obtain ⟨n1, n2, n3⟩ := num13 k0 k1
  rw [do_may13 hm hl hs (by simp [n3]) (show ar13 8 = some 1 by decide)]
  show pa13 h 8 s (2 * k + 1) 0 = _
  unfold pa13
  rw [if_neg (by decide), if_neg (by rw [n1]; decide), if_pos rfl, n2]
theorem do10_13 {h : Hp} {s : Int} (hm : mayB h = true) (hl : 12 ≤ h.objs.length) (hs : hasB h.objs.length s = true) :
    do13 h 10 s [] = if refB h.objs.length s = false ∨ (obAt h s).kind = 2 then fa13 h else (h, 2 * ((obAt h s).slots.length + (obAt h s).text.size : Int) + 1, 0) := by
  rw [do_may13 hm hl hs rfl (show ar13 10 = some 0 by decide)]
  show pa13 h 10 s 0 0 = _
  unfold pa13
  rw [if_pos rfl]
  by_cases e : refB h.objs.length s = false ∨ (obAt h s).kind = 2
  · rw [if_pos e, if_pos e]
  · rw [if_neg e, if_neg e]
    have hr : refB h.objs.length s = true := by
      cases g : refB h.objs.length s
      · exact absurd (.inl g) e
      · rfl
    obtain ⟨l1, l2, -⟩ := kind_len (ob_kind (may_all hm _ (ob_mem hr)))
    unfold in13
    rw [if_pos (smB_iff.2 (by omega))]
theorem set_wd13 {h : Hp} {s k x : Int} (wd : ∀ o ∈ h.objs, In64 o.bits) (hr : refB h.objs.length s = true) : ∀ o ∈ (setH h s k x).objs, In64 o.bits := by
  intro o ho
  rcases List.mem_or_eq_of_mem_set ho with g | g
  · exact wd o g
  · rw [g]; show In64 (obAt h s).bits; exact wd _ (ob_mem hr)
theorem slt13 {h : Hp} {s k x : Int} (hm : mayB h = true) (hl : 12 ≤ h.objs.length) (hs : hasB h.objs.length s = true) (hx : hasB h.objs.length x = true) (k0 : -1000 ≤ k) (k1 : k ≤ 1000) (e : plE h s 0 (k - 1) = 0) :
    Slt13 h (setH h s (k - 1) x) s k x (geV h s (k - 1)) ((obAt h s).slots.length + (obAt h s).text.size) := by
  have p := placed e
  obtain ⟨-, hr, hk, p0, p1⟩ := pl_ok e
  obtain ⟨a1, a2⟩ := keeps_ok e hx
  have hlen := setH_len h s (k - 1) x
  have hm' := set_may p hx
  have hl' : 12 ≤ (setH h s (k - 1) x).objs.length := by rw [hlen]; exact hl
  have hs' : hasB (setH h s (k - 1) x).objs.length s = true := by rw [hlen]; exact hs
  have hold : hasB (setH h s (k - 1) x).objs.length (geV h s (k - 1)) = true := by rw [hlen]; exact geV_has e
  have e' : plE (setH h s (k - 1) x) s 0 (k - 1) = 0 := by rw [set_plE p hx]; exact e
  obtain ⟨b1, b2⟩ := keeps_ok e' hold
  have hs1 : k - 1 < ((obAt h s).slots.length : Int) := by unfold szO at p1; rw [if_neg (by decide)] at p1; exact p1
  refine ⟨?_, ?_, ?_, ?_, ?_, by omega, by omega, may_fit hm', fun wd => set_wd13 wd hr⟩
  · rw [do9_13 hm hl hs hx k0 k1, if_neg (fun g => g a1), a2]
  · rw [do8_13 hm hl hs k0 k1, if_neg (fun g => g e)]
  · rw [do10_13 hm hl hs, if_neg]
    rw [hr, hk]; decide
  · rw [do8_13 hm' hl' hs' k0 k1, if_neg (fun g => g e'), set_get_x e hx]
  · rw [do9_13 hm' hl' hs' hold k0 k1, if_neg (fun g => g b1), b2, set_back e hx]
theorem slt_no13 {h : Hp} {s k x : Int} (hm : mayB h = true) (hl : 12 ≤ h.objs.length) (hs : hasB h.objs.length s = true) (hx : hasB h.objs.length x = true) (k0 : -1000 ≤ k) (k1 : k ≤ 1000) (e : plE h s 0 (k - 1) ≠ 0) :
    do13 h 9 s [2 * k + 1, x] = (h, 0, 130) ∧ do13 h 8 s [2 * k + 1] = (h, 0, 130) ∧ (do13 h 10 s [] = (h, 0, 130) ∨ (refB h.objs.length s = true ∧ do13 h 10 s [] = (h, 2 * ((obAt h s).slots.length + (obAt h s).text.size : Int) + 1, 0) ∧ ((obAt h s).kind ≠ 0 ∨ k < 1 ∨ ((obAt h s).slots.length + (obAt h s).text.size : Int) < k))) := by
  have a := (keeps_no hm (x := x) e).1
  refine ⟨by rw [do9_13 hm hl hs hx k0 k1, if_pos (by rw [a]; exact e)]; rfl, by rw [do8_13 hm hl hs k0 k1, if_pos e]; rfl, ?_⟩
  rw [do10_13 hm hl hs]
  by_cases g : refB h.objs.length s = false ∨ (obAt h s).kind = 2
  · rw [if_pos g]; exact .inl rfl
  · rw [if_neg g]
    have hr : refB h.objs.length s = true := by
      cases g2 : refB h.objs.length s
      · exact absurd (.inl g2) g
      · rfl
    refine .inr ⟨hr, rfl, ?_⟩
    by_cases hk : (obAt h s).kind = 0
    · right
      obtain ⟨-, -, l3, -⟩ := kind_len (ob_kind (may_all hm _ (ob_mem hr)))
      have l4 := l3 hk
      have hz : szO 0 (obAt h s) = ((obAt h s).slots.length : Int) := by unfold szO; rw [if_neg (by decide)]
      unfold plE at e
      rw [if_neg (by rw [hm]; decide), if_neg (by rw [hr]; decide), if_neg (fun c => c hk), hz] at e
      by_cases q : k - 1 < 0 ∨ ((obAt h s).slots.length : Int) ≤ k - 1
      · omega
      · rw [if_neg q] at e; exact absurd rfl e
    · exact .inl hk
end Go.Proofs.YtjhkdehngdmobaaGreat
namespace Go.Proofs.YtjhkdehngdmobaaGreat
open Go.RowKit Flt
set_option maxRecDepth 100000
set_option maxHeartbeats 4000000 in
theorem primslots_any13 (h : Hp) (s k x : Int) (A : Option Addr) (c : Nat) (w : World) (hs : ObsR w A h.objs) (fit : h.Fit) (wd : ∀ o ∈ h.objs, In64 o.bits) :
    Calls Tryz.prog 7 #[.agg #[.slice A h.objs.length c, .int .i64 h.cap, .int .i64 h.last], .int .i64 s, .agg #[.int .i64 k, .int .i64 x]] w fun e w' => e = .returned (.bool true) ∧ Below w.heap.size w w' := by
  obtain ⟨w0, hw0⟩ : ∃ w0, w0 = (w.alloc (.cells #[Value.slice A h.objs.length c, Value.int .i64 h.cap, Value.int .i64 h.last] 24)).alloc (.cells #[.int .i64 k, .int .i64 x] 39) := ⟨_, rfl⟩
  have HB0 : Hid (Below w.heap.size w w0) := by show Below _ _ _; rw [hw0]; exact below_alloc2 w _ _
  have HX0 : Hid (Lies w0 w.heap.size 24 #[Value.slice A h.objs.length c, Value.int .i64 h.cap, Value.int .i64 h.last]) := by show Lies _ _ _ _; rw [hw0]; exact ((Lies.new w _ _).alloc _)
  have HK0 : Hid (Lies w0 (w.heap.size + 1) 39 #[.int .i64 k, .int .i64 x]) := by
    show Lies _ _ _ _
    have := Lies.new (w.alloc (.cells #[Value.slice A h.objs.length c, Value.int .i64 h.cap, Value.int .i64 h.last] 24)) 39 #[.int .i64 k, .int .i64 x]
    rw [hw0]
    simpa [Hid] using this
  have HS := hid hs
  have HF := hid fit
  have HWD := hid wd
  clear hs fit wd
  go_enter Tryz.func7, Tryz.ntmps7
  go_upto_region 1 with fail
  rw [← hw0]
  clear hw0
  go_wp2_with fail
  refine (fixed13_any _).mono ?_
  rintro e w1 ⟨rfl, hb⟩
  have HB1 := hid (then_w HB0.out hb)
  have HX1 := hid (HX0.out.later hb)
  have HK1 := hid (HK0.out.later hb)
  clear hb
  clear HB0 HX0 HK0
  have x0 := HX1.out.cell 0
  have x1 := HX1.out.cell 1
  have x2 := HX1.out.cell 2
  simp only [List.getElem?_toArray, List.getElem?_cons_zero, List.getElem?_cons_succ] at x0 x1 x2
  have k0 := HK1.out.cell 0
  have k1 := HK1.out.cell 1
  simp only [List.getElem?_toArray, List.getElem?_cons_zero, List.getElem?_cons_succ] at k0 k1
  go_wp2_with fail
  refine (small_ok h A c _ (HS.out.below HB1.out) HF.out).mono ?_
  rintro e w2 ⟨sb, rfl, hb⟩
  clear x0 x1 x2 k0 k1
  have HB2 := hid (then_w HB1.out hb)
  have HX2 := hid (HX1.out.later hb)
  have HK2 := hid (HK1.out.later hb)
  clear hb
  clear HB1 HX1 HK1
  cases sb
  · have x0 := HX2.out.cell 0
    have x1 := HX2.out.cell 1
    have x2 := HX2.out.cell 2
    simp only [List.getElem?_toArray, List.getElem?_cons_zero, List.getElem?_cons_succ] at x0 x1 x2
    have k0 := HK2.out.cell 0
    have k1 := HK2.out.cell 1
    simp only [List.getElem?_toArray, List.getElem?_cons_zero, List.getElem?_cons_succ] at k0 k1
    go_wp2_with fail
    refine (fixed13_any _).mono ?_
    rintro e w3 ⟨rfl, hb⟩
    clear x0 x1 x2 k0 k1
    have HB3 := hid (then_w HB2.out hb)
    have HX3 := hid (HX2.out.later hb)
    have HK3 := hid (HK2.out.later hb)
    clear hb
    clear HB2 HX2 HK2
    go_wp2_with fail
    go_ret
    exact ⟨rfl, HB3.out⟩
  by_cases h60 : h.objs.length ≤ 60
  case neg =>
    have hI60 : (60 : Int) < (h.objs.length : Int) := by omega
    have hI12 : ¬ (h.objs.length : Int) < 12 := by omega
    have x0 := HX2.out.cell 0
    have x1 := HX2.out.cell 1
    have x2 := HX2.out.cell 2
    simp only [List.getElem?_toArray, List.getElem?_cons_zero, List.getElem?_cons_succ] at x0 x1 x2
    have k0 := HK2.out.cell 0
    have k1 := HK2.out.cell 1
    simp only [List.getElem?_toArray, List.getElem?_cons_zero, List.getElem?_cons_succ] at k0 k1
    go_wp2_with fail
    refine (fixed13_any _).mono ?_
    rintro e w3 ⟨rfl, hb⟩
    clear x0 x1 x2 k0 k1
    have HB3 := hid (then_w HB2.out hb)
    have HX3 := hid (HX2.out.later hb)
    have HK3 := hid (HK2.out.later hb)
    clear hb
    clear HB2 HX2 HK2
    go_wp2_with fail
    go_ret
    exact ⟨rfl, HB3.out⟩
  have hI60 : ¬ (60 : Int) < (h.objs.length : Int) := by omega
  by_cases h12 : 12 ≤ h.objs.length
  case neg =>
    have hI12 : (h.objs.length : Int) < 12 := by omega
    have x0 := HX2.out.cell 0
    have x1 := HX2.out.cell 1
    have x2 := HX2.out.cell 2
    simp only [List.getElem?_toArray, List.getElem?_cons_zero, List.getElem?_cons_succ] at x0 x1 x2
    have k0 := HK2.out.cell 0
    have k1 := HK2.out.cell 1
    simp only [List.getElem?_toArray, List.getElem?_cons_zero, List.getElem?_cons_succ] at k0 k1
    go_wp2_with fail
    refine (fixed13_any _).mono ?_
    rintro e w3 ⟨rfl, hb⟩
    clear x0 x1 x2 k0 k1
    have HB3 := hid (then_w HB2.out hb)
    have HX3 := hid (HX2.out.later hb)
    have HK3 := hid (HK2.out.later hb)
    clear hb
    clear HB2 HX2 HK2
    go_wp2_with fail
    go_ret
    exact ⟨rfl, HB3.out⟩
  have hI12 : ¬ (h.objs.length : Int) < 12 := by omega
  have H12 := hid h12
  have x0 := HX2.out.cell 0
  have x1 := HX2.out.cell 1
  have x2 := HX2.out.cell 2
  simp only [List.getElem?_toArray, List.getElem?_cons_zero, List.getElem?_cons_succ] at x0 x1 x2
  have k0 := HK2.out.cell 0
  have k1 := HK2.out.cell 1
  simp only [List.getElem?_toArray, List.getElem?_cons_zero, List.getElem?_cons_succ] at k0 k1
  go_wp2_with fail
  refine (rmay_any h A c _ (HS.out.below HB2.out) HF.out).mono ?_
  rintro e w3 ⟨rfl, hb⟩
  clear x0 x1 x2 k0 k1
  have HB3 := hid (then_w HB2.out hb)
  have HX3 := hid (HX2.out.later hb)
  have HK3 := hid (HK2.out.later hb)
  clear hb
  clear HB2 HX2 HK2
  cases hm : mayB h
  · clear hm
    have x0 := HX3.out.cell 0
    have x1 := HX3.out.cell 1
    have x2 := HX3.out.cell 2
    simp only [List.getElem?_toArray, List.getElem?_cons_zero, List.getElem?_cons_succ] at x0 x1 x2
    have k0 := HK3.out.cell 0
    have k1 := HK3.out.cell 1
    simp only [List.getElem?_toArray, List.getElem?_cons_zero, List.getElem?_cons_succ] at k0 k1
    go_wp2_with fail
    refine (fixed13_any _).mono ?_
    rintro e w4 ⟨rfl, hb⟩
    clear x0 x1 x2 k0 k1
    have HB4 := hid (then_w HB3.out hb)
    have HX4 := hid (HX3.out.later hb)
    have HK4 := hid (HK3.out.later hb)
    clear hb
    clear HB3 HX3 HK3
    go_wp2_with fail
    go_ret
    exact ⟨rfl, HB4.out⟩
  have HM := hid hm
  clear hm
  have x0 := HX3.out.cell 0
  have x1 := HX3.out.cell 1
  have x2 := HX3.out.cell 2
  simp only [List.getElem?_toArray, List.getElem?_cons_zero, List.getElem?_cons_succ] at x0 x1 x2
  have k0 := HK3.out.cell 0
  have k1 := HK3.out.cell 1
  simp only [List.getElem?_toArray, List.getElem?_cons_zero, List.getElem?_cons_succ] at k0 k1
  go_wp2_with fail
  refine (rhas_any h s A c _).mono ?_
  rintro e w4 ⟨rfl, hb⟩
  clear x0 x1 x2 k0 k1
  have HB4 := hid (then_w HB3.out hb)
  have HX4 := hid (HX3.out.later hb)
  have HK4 := hid (HK3.out.later hb)
  clear hb
  clear HB3 HX3 HK3
  cases hh : hasB h.objs.length s
  · clear hh
    have x0 := HX4.out.cell 0
    have x1 := HX4.out.cell 1
    have x2 := HX4.out.cell 2
    simp only [List.getElem?_toArray, List.getElem?_cons_zero, List.getElem?_cons_succ] at x0 x1 x2
    have k0 := HK4.out.cell 0
    have k1 := HK4.out.cell 1
    simp only [List.getElem?_toArray, List.getElem?_cons_zero, List.getElem?_cons_succ] at k0 k1
    go_wp2_with fail
    refine (fixed13_any _).mono ?_
    rintro e w5 ⟨rfl, hb⟩
    clear x0 x1 x2 k0 k1
    have HB5 := hid (then_w HB4.out hb)
    have HX5 := hid (HX4.out.later hb)
    have HK5 := hid (HK4.out.later hb)
    clear hb
    clear HB4 HX4 HK4
    go_wp2_with fail
    go_ret
    exact ⟨rfl, HB5.out⟩
  have HA := hid hh
  clear hh
  have x0 := HX4.out.cell 0
  have x1 := HX4.out.cell 1
  have x2 := HX4.out.cell 2
  simp only [List.getElem?_toArray, List.getElem?_cons_zero, List.getElem?_cons_succ] at x0 x1 x2
  have k0 := HK4.out.cell 0
  have k1 := HK4.out.cell 1
  simp only [List.getElem?_toArray, List.getElem?_cons_zero, List.getElem?_cons_succ] at k0 k1
  go_wp2_with fail
  refine (rhas_any h x A c _).mono ?_
  rintro e w5 ⟨rfl, hb⟩
  clear x0 x1 x2 k0 k1
  have HB5 := hid (then_w HB4.out hb)
  have HX5 := hid (HX4.out.later hb)
  have HK5 := hid (HK4.out.later hb)
  clear hb
  clear HB4 HX4 HK4
  cases hh : hasB h.objs.length x
  · clear hh
    have x0 := HX5.out.cell 0
    have x1 := HX5.out.cell 1
    have x2 := HX5.out.cell 2
    simp only [List.getElem?_toArray, List.getElem?_cons_zero, List.getElem?_cons_succ] at x0 x1 x2
    have k0 := HK5.out.cell 0
    have k1 := HK5.out.cell 1
    simp only [List.getElem?_toArray, List.getElem?_cons_zero, List.getElem?_cons_succ] at k0 k1
    go_wp2_with fail
    refine (fixed13_any _).mono ?_
    rintro e w6 ⟨rfl, hb⟩
    clear x0 x1 x2 k0 k1
    have HB6 := hid (then_w HB5.out hb)
    have HX6 := hid (HX5.out.later hb)
    have HK6 := hid (HK5.out.later hb)
    clear hb
    clear HB5 HX5 HK5
    go_wp2_with fail
    go_ret
    exact ⟨rfl, HB6.out⟩
  have HC := hid hh
  clear hh
  by_cases hk0 : -1000 ≤ k
  case neg =>
    have hk0I : k < -1000 := by omega
    have x0 := HX5.out.cell 0
    have x1 := HX5.out.cell 1
    have x2 := HX5.out.cell 2
    simp only [List.getElem?_toArray, List.getElem?_cons_zero, List.getElem?_cons_succ] at x0 x1 x2
    have k0 := HK5.out.cell 0
    have k1 := HK5.out.cell 1
    simp only [List.getElem?_toArray, List.getElem?_cons_zero, List.getElem?_cons_succ] at k0 k1
    go_wp2_with fail
    refine (fixed13_any _).mono ?_
    rintro e w6 ⟨rfl, hb⟩
    clear x0 x1 x2 k0 k1
    have HB6 := hid (then_w HB5.out hb)
    have HX6 := hid (HX5.out.later hb)
    have HK6 := hid (HK5.out.later hb)
    clear hb
    clear HB5 HX5 HK5
    go_wp2_with fail
    go_ret
    exact ⟨rfl, HB6.out⟩
  have hk0I : ¬ k < -1000 := by omega
  by_cases hk1 : k ≤ 1000
  case neg =>
    have hk1I : 1000 < k := by omega
    have x0 := HX5.out.cell 0
    have x1 := HX5.out.cell 1
    have x2 := HX5.out.cell 2
    simp only [List.getElem?_toArray, List.getElem?_cons_zero, List.getElem?_cons_succ] at x0 x1 x2
    have k0 := HK5.out.cell 0
    have k1 := HK5.out.cell 1
    simp only [List.getElem?_toArray, List.getElem?_cons_zero, List.getElem?_cons_succ] at k0 k1
    go_wp2_with fail
    refine (fixed13_any _).mono ?_
    rintro e w6 ⟨rfl, hb⟩
    clear x0 x1 x2 k0 k1
    have HB6 := hid (then_w HB5.out hb)
    have HX6 := hid (HX5.out.later hb)
    have HK6 := hid (HK5.out.later hb)
    clear hb
    clear HB5 HX5 HK5
    go_wp2_with fail
    go_ret
    exact ⟨rfl, HB6.out⟩
  have hk1I : ¬ 1000 < k := by omega
  have hwk : IntKind.i64.wrap (2 * k) = 2 * k := IntWalk.i64_in _ (by omega)
  have hwk2 : IntKind.i64.wrap (2 * k + 1) = 2 * k + 1 := IntWalk.i64_in _ (by omega)
  have x0 := HX5.out.cell 0
  have x1 := HX5.out.cell 1
  have x2 := HX5.out.cell 2
  simp only [List.getElem?_toArray, List.getElem?_cons_zero, List.getElem?_cons_succ] at x0 x1 x2
  have k0 := HK5.out.cell 0
  have k1 := HK5.out.cell 1
  simp only [List.getElem?_toArray, List.getElem?_cons_zero, List.getElem?_cons_succ] at k0 k1
  go_upto_region 4 with fail
  have HW := hid (And.intro hwk hwk2)
  clear hI60 hI12 h60 h12 hk0I hk1I hwk hwk2
  clear x0 x1 x2 k0 k1
  by_cases he : plE h s 0 (k - 1) = 0
  case neg =>
    obtain ⟨d1, d2, d3⟩ := slt_no13 HM.out H12.out HA.out HC.out hk0 hk1 he
    have D1 := hid d1
    have D2 := hid d2
    have D3 := hid d3
    clear d1 d2 d3 he hk0 hk1
    obtain ⟨at_, hat⟩ : ∃ y, y = 2 * k + 1 := ⟨_, rfl⟩
    rw [← hat] at D1 D2 ⊢
    have HAT := hid hat
    clear hat
    have x0 := HX5.out.cell 0
    have x1 := HX5.out.cell 1
    have x2 := HX5.out.cell 2
    simp only [List.getElem?_toArray, List.getElem?_cons_zero, List.getElem?_cons_succ] at x0 x1 x2
    have k0 := HK5.out.cell 0
    have k1 := HK5.out.cell 1
    simp only [List.getElem?_toArray, List.getElem?_cons_zero, List.getElem?_cons_succ] at k0 k1
    go_wp2_with fail
    obtain ⟨w6, hw⟩ : ∃ y_, y_ = w5.alloc (.cells #[.int .i64 at_, .int .i64 x] 3) := ⟨_, rfl⟩
    obtain ⟨b6, hbx⟩ : ∃ y_, y_ = w5.heap.size := ⟨_, rfl⟩
    have hb : Below w5.heap.size w5 w6 := by rw [hw]; exact below_alloc _ _
    have hl : Lies w6 b6 3 #[.int .i64 at_, .int .i64 x] := by rw [hw, hbx]; exact Lies.new _ _ _
    rw [← hw, ← hbx]
    clear hw hbx
    clear x0 x1 x2 k0 k1
    have HB6 := hid (then_w HB5.out hb)
    have HX6 := hid (HX5.out.later hb)
    have HK6 := hid (HK5.out.later hb)
    clear hb
    clear HB5 HX5 HK5
    refine (cdo_any13 h 9 s [at_, x] (some ⟨b6, 0, none⟩) 2 A c _ (HS.out.below HB6.out) HF.out (lies_ints13 hl rfl) (by simp) HWD.out).mono ?_
    rintro e w7 ⟨A2, c2, rfl, -, hb⟩
    rw [D1.out]
    clear hl
    have HB7 := hid (then_w HB6.out hb)
    have HX7 := hid (HX6.out.later hb)
    have HK7 := hid (HK6.out.later hb)
    clear hb
    clear HB6 HX6 HK6
    go_upto_region 5 with fail
    obtain ⟨w8, hw⟩ : ∃ x, x = w7.alloc (.cells #[.slice A2 h.objs.length c2, .int .i64 h.cap, .int .i64 h.last] 24) := ⟨_, rfl⟩
    have hb : Below w7.heap.size w7 w8 := by rw [hw]; exact below_alloc _ _
    rw [← hw]
    clear hw
    have HB8 := hid (then_w HB7.out hb)
    have HX8 := hid (HX7.out.later hb)
    have HK8 := hid (HK7.out.later hb)
    clear hb
    clear HB7 HX7 HK7
    have x0 := HX8.out.cell 0
    have x1 := HX8.out.cell 1
    have x2 := HX8.out.cell 2
    simp only [List.getElem?_toArray, List.getElem?_cons_zero, List.getElem?_cons_succ] at x0 x1 x2
    have k0 := HK8.out.cell 0
    have k1 := HK8.out.cell 1
    simp only [List.getElem?_toArray, List.getElem?_cons_zero, List.getElem?_cons_succ] at k0 k1
    go_wp2_with fail
    obtain ⟨w9, hw⟩ : ∃ y_, y_ = w8.alloc (.cells #[.int .i64 at_] 3) := ⟨_, rfl⟩
    obtain ⟨b9, hbx⟩ : ∃ y_, y_ = w8.heap.size := ⟨_, rfl⟩
    have hb : Below w8.heap.size w8 w9 := by rw [hw]; exact below_alloc _ _
    have hl : Lies w9 b9 3 #[.int .i64 at_] := by rw [hw, hbx]; exact Lies.new _ _ _
    rw [← hw, ← hbx]
    clear hw hbx
    clear x0 x1 x2 k0 k1
    have HB9 := hid (then_w HB8.out hb)
    have HX9 := hid (HX8.out.later hb)
    have HK9 := hid (HK8.out.later hb)
    clear hb
    clear HB8 HX8 HK8
    refine (cdo_any13 h 8 s [at_] (some ⟨b9, 0, none⟩) 1 A c _ (HS.out.below HB9.out) HF.out (lies_ints13 hl rfl) (by simp) HWD.out).mono ?_
    rintro e w10 ⟨A3, c3, rfl, -, hb⟩
    rw [D2.out]
    clear hl
    have HB10 := hid (then_w HB9.out hb)
    have HX10 := hid (HX9.out.later hb)
    have HK10 := hid (HK9.out.later hb)
    clear hb
    clear HB9 HX9 HK9
    go_upto_region 6 with fail
    obtain ⟨w11, hw⟩ : ∃ x, x = w10.alloc (.cells #[.slice A3 h.objs.length c3, .int .i64 h.cap, .int .i64 h.last] 24) := ⟨_, rfl⟩
    have hb : Below w10.heap.size w10 w11 := by rw [hw]; exact below_alloc _ _
    rw [← hw]
    clear hw
    have HB11 := hid (then_w HB10.out hb)
    have HX11 := hid (HX10.out.later hb)
    have HK11 := hid (HK10.out.later hb)
    clear hb
    clear HB10 HX10 HK10
    obtain d3 | ⟨hr, d3, d4⟩ := D3.out
    case inl =>
      have x0 := HX11.out.cell 0
      have x1 := HX11.out.cell 1
      have x2 := HX11.out.cell 2
      simp only [List.getElem?_toArray, List.getElem?_cons_zero, List.getElem?_cons_succ] at x0 x1 x2
      have k0 := HK11.out.cell 0
      have k1 := HK11.out.cell 1
      simp only [List.getElem?_toArray, List.getElem?_cons_zero, List.getElem?_cons_succ] at k0 k1
      go_wp2_with fail
      clear x0 x1 x2 k0 k1
      refine (cdo_any13 h 10 s [] none 0 A c _ (HS.out.below HB11.out) HF.out (fun h => absurd h (by decide)) (by decide) HWD.out).mono ?_
      rintro e w12 ⟨A4, c4, rfl, -, hb⟩
      rw [d3]
      have HB12 := hid (then_w HB11.out hb)
      have HX12 := hid (HX11.out.later hb)
      have HK12 := hid (HK11.out.later hb)
      clear hb
      clear HB11 HX11 HK11
      go_upto_region 9 with fail
      obtain ⟨w13, hw⟩ : ∃ x, x = w12.alloc (.cells #[.slice A4 h.objs.length c4, .int .i64 h.cap, .int .i64 h.last] 24) := ⟨_, rfl⟩
      have hb : Below w12.heap.size w12 w13 := by rw [hw]; exact below_alloc _ _
      rw [← hw]
      clear hw
      have HB13 := hid (then_w HB12.out hb)
      have HX13 := hid (HX12.out.later hb)
      have HK13 := hid (HK12.out.later hb)
      clear hb
      clear HB12 HX12 HK12
      have x0 := HX13.out.cell 0
      have x1 := HX13.out.cell 1
      have x2 := HX13.out.cell 2
      simp only [List.getElem?_toArray, List.getElem?_cons_zero, List.getElem?_cons_succ] at x0 x1 x2
      have k0 := HK13.out.cell 0
      have k1 := HK13.out.cell 1
      simp only [List.getElem?_toArray, List.getElem?_cons_zero, List.getElem?_cons_succ] at k0 k1
      go_upto_region 10 with fail
      refine wp_region_held_drew (S := (fun w' => w'.cell? ⟨w.heap.size, 0, none⟩ = some (.slice A h.objs.length c) ∧ w'.cell? ⟨w.heap.size, 1, none⟩ = some (.int .i64 h.cap) ∧ w'.cell? ⟨w.heap.size, 2, none⟩ = some (.int .i64 h.last) ∧ w'.cell? ⟨w.heap.size + 1, 0, none⟩ = some (.int .i64 k) ∧ w'.cell? ⟨w.heap.size + 1, 1, none⟩ = some (.int .i64 x) ∧ Below w13.heap.size w13 w')) (by kernel_rfl) ?_ (fun hH0 => ?_)
      · exact ⟨cell_later (Below.refl w13.heap.size w13).drew x0, cell_later (Below.refl w13.heap.size w13).drew x1, cell_later (Below.refl w13.heap.size w13).drew x2, cell_later (Below.refl w13.heap.size w13).drew k0, cell_later (Below.refl w13.heap.size w13).drew k1, (Below.refl _ _).drew⟩
      refine wpAnyH_take (i := 0) (oi := { dst := some 107, op := Go.Op.move (Go.Operand.tmp 16), type := 30, pos := "law.go:140", after := #[], guard := none }) (v := ?vv1) rfl (by kernel_rfl) (by kernel_rfl) (by kernel_rfl) (fun _ _ _ h => h) (Or.inl ⟨by rfl, ?hy1⟩) (by assumption) ?rr1
      case hy1 => intro w hSw; (try dsimp only at hSw); go_simp; all_goals with_reducible rfl
      try simp only [Act.put, List.setIfInBounds_toArray, List.set_cons_zero, List.set_cons_succ]
      refine wpAnyH_take (i := 1) (oi := { dst := some 108, op := Go.Op.binOp Go.BinOp.neq 30 (Go.Operand.tmp 107) (Go.Operand.const (Go.Value.int Go.IntKind.i64 0)) 30, type := 4, pos := "law.go:140", after := #[{ on := 0, ground := Go.Ground.data }], guard := none }) (v := ?vv2) rfl (by kernel_rfl) (by kernel_rfl) (by kernel_rfl) (fun _ _ _ h => h) (Or.inl ⟨by rfl, ?hy2⟩) (by assumption) ?rr2
      case hy2 => intro w hSw; (try dsimp only at hSw); go_simp; all_goals with_reducible rfl
      try simp only [Act.put, List.setIfInBounds_toArray, List.set_cons_zero, List.set_cons_succ]
      refine wpAnyH_take (i := 2) (oi := { dst := some 109, op := Go.Op.move (Go.Operand.tmp 108), type := 4, pos := "law.go:140", after := #[{ on := 1, ground := Go.Ground.data }], guard := none }) (v := ?vv3) rfl (by kernel_rfl) (by kernel_rfl) (by kernel_rfl) (fun _ _ _ h => h) (Or.inl ⟨by rfl, ?hy3⟩) (by assumption) ?rr3
      case hy3 => intro w hSw; (try dsimp only at hSw); go_simp; all_goals with_reducible rfl
      try simp only [Act.put, List.setIfInBounds_toArray, List.set_cons_zero, List.set_cons_succ]
      refine wpAnyH_take (i := 3) (oi := { dst := some 110, op := Go.Op.load 24 (Go.Operand.tmp 3), type := 24, pos := "law.go:140", after := #[{ on := 2, ground := Go.Ground.guard }], guard := some (2, false) }) (v := undef) rfl (by kernel_rfl) (by kernel_rfl) (by kernel_rfl) (fun _ _ _ h => h) (Or.inr ⟨by rfl, rfl⟩) (by assumption) ?_
      try simp only [Act.put, List.setIfInBounds_toArray, List.set_cons_zero, List.set_cons_succ]
      refine wpAnyH_take (i := 4) (oi := { dst := some 111, op := Go.Op.move (Go.Operand.tmp 1), type := 3, pos := "law.go:140", after := #[{ on := 2, ground := Go.Ground.guard }], guard := some (2, false) }) (v := undef) rfl (by kernel_rfl) (by kernel_rfl) (by kernel_rfl) (fun _ _ _ h => h) (Or.inr ⟨by rfl, rfl⟩) (by assumption) ?_
      try simp only [Act.put, List.setIfInBounds_toArray, List.set_cons_zero, List.set_cons_succ]
      refine wpAnyH_take (i := 5) (oi := { dst := some 112, op := Go.Op.call { callee := Go.Callee.value (Go.Operand.func 22), args := #[Go.Operand.tmp 110, Go.Operand.tmp 111], argTypes := #[24, 3] }, type := 3, pos := "law.go:140", after := #[{ on := 3, ground := Go.Ground.data }, { on := 4, ground := Go.Ground.data }, { on := 2, ground := Go.Ground.chain }, { on := 2, ground := Go.Ground.guard }], guard := some (2, false) }) (v := undef) rfl (by kernel_rfl) (by kernel_rfl) (by kernel_rfl) (fun _ _ _ h => h) (Or.inr ⟨by rfl, rfl⟩) (by assumption) ?_
      try simp only [Act.put, List.setIfInBounds_toArray, List.set_cons_zero, List.set_cons_succ]
      refine wpAnyH_take (i := 6) (oi := { dst := some 113, op := Go.Op.binOp Go.BinOp.lss 3 (Go.Operand.tmp 112) (Go.Operand.const (Go.Value.int Go.IntKind.i64 0)) 3, type := 4, pos := "law.go:140", after := #[{ on := 5, ground := Go.Ground.data }, { on := 2, ground := Go.Ground.guard }], guard := some (2, false) }) (v := undef) rfl (by kernel_rfl) (by kernel_rfl) (by kernel_rfl) (fun _ _ _ h => h) (Or.inr ⟨by rfl, rfl⟩) (by assumption) ?_
      try simp only [Act.put, List.setIfInBounds_toArray, List.set_cons_zero, List.set_cons_succ]
      refine wpAnyH_take (i := 7) (oi := { dst := some 114, op := Go.Op.pick (Go.Operand.tmp 109) (Go.Operand.const (Go.Value.bool true)) (Go.Operand.tmp 113), type := 4, pos := "law.go:140", after := #[{ on := 2, ground := Go.Ground.data }, { on := 6, ground := Go.Ground.data }], guard := none }) (v := ?vv8) rfl (by kernel_rfl) (by kernel_rfl) (by kernel_rfl) (fun _ _ _ h => h) (Or.inl ⟨by rfl, ?hy8⟩) (by assumption) ?rr8
      case hy8 => intro w hSw; (try dsimp only at hSw); go_simp; all_goals with_reducible rfl
      try simp only [Act.put, List.setIfInBounds_toArray, List.set_cons_zero, List.set_cons_succ]
      refine wpAnyH_take (i := 8) (oi := { dst := some 115, op := Go.Op.move (Go.Operand.tmp 114), type := 4, pos := "law.go:140", after := #[{ on := 7, ground := Go.Ground.data }, { on := 5, ground := Go.Ground.chain }], guard := none }) (v := ?vv9) rfl (by kernel_rfl) (by kernel_rfl) (by kernel_rfl) (fun _ _ _ h => h) (Or.inl ⟨by rfl, ?hy9⟩) (by assumption) ?rr9
      case hy9 => intro w hSw; (try dsimp only at hSw); go_simp; all_goals with_reducible rfl
      try simp only [Act.put, List.setIfInBounds_toArray, List.set_cons_zero, List.set_cons_succ]
      refine wpAnyH_take (i := 9) (oi := { dst := some 116, op := Go.Op.fieldAddr 24 (Go.Operand.tmp 3) 0, type := 0, pos := "law.go:140", after := #[{ on := 8, ground := Go.Ground.guard }], guard := some (8, false) }) (v := undef) rfl (by kernel_rfl) (by kernel_rfl) (by kernel_rfl) (fun _ _ _ h => h) (Or.inr ⟨by rfl, rfl⟩) (by assumption) ?_
      try simp only [Act.put, List.setIfInBounds_toArray, List.set_cons_zero, List.set_cons_succ]
      refine wpAnyH_take (i := 10) (oi := { dst := some 117, op := Go.Op.load 22 (Go.Operand.tmp 116), type := 22, pos := "law.go:140", after := #[{ on := 9, ground := Go.Ground.data }, { on := 8, ground := Go.Ground.guard }], guard := some (8, false) }) (v := undef) rfl (by kernel_rfl) (by kernel_rfl) (by kernel_rfl) (fun _ _ _ h => h) (Or.inr ⟨by rfl, rfl⟩) (by assumption) ?_
      try simp only [Act.put, List.setIfInBounds_toArray, List.set_cons_zero, List.set_cons_succ]
      refine wpAnyH_take (i := 11) (oi := { dst := some 118, op := Go.Op.load 24 (Go.Operand.tmp 3), type := 24, pos := "law.go:140", after := #[{ on := 8, ground := Go.Ground.guard }], guard := some (8, false) }) (v := undef) rfl (by kernel_rfl) (by kernel_rfl) (by kernel_rfl) (fun _ _ _ h => h) (Or.inr ⟨by rfl, rfl⟩) (by assumption) ?_
      try simp only [Act.put, List.setIfInBounds_toArray, List.set_cons_zero, List.set_cons_succ]
      refine wpAnyH_take (i := 12) (oi := { dst := some 119, op := Go.Op.move (Go.Operand.tmp 1), type := 3, pos := "law.go:140", after := #[{ on := 8, ground := Go.Ground.guard }], guard := some (8, false) }) (v := undef) rfl (by kernel_rfl) (by kernel_rfl) (by kernel_rfl) (fun _ _ _ h => h) (Or.inr ⟨by rfl, rfl⟩) (by assumption) ?_
      try simp only [Act.put, List.setIfInBounds_toArray, List.set_cons_zero, List.set_cons_succ]
      refine wpAnyH_take (i := 13) (oi := { dst := some 120, op := Go.Op.call { callee := Go.Callee.value (Go.Operand.func 22), args := #[Go.Operand.tmp 118, Go.Operand.tmp 119], argTypes := #[24, 3] }, type := 3, pos := "law.go:140", after := #[{ on := 11, ground := Go.Ground.data }, { on := 12, ground := Go.Ground.data }, { on := 8, ground := Go.Ground.chain }, { on := 8, ground := Go.Ground.guard }], guard := some (8, false) }) (v := undef) rfl (by kernel_rfl) (by kernel_rfl) (by kernel_rfl) (fun _ _ _ h => h) (Or.inr ⟨by rfl, rfl⟩) (by assumption) ?_
      try simp only [Act.put, List.setIfInBounds_toArray, List.set_cons_zero, List.set_cons_succ]
      refine wpAnyH_take (i := 14) (oi := { dst := some 121, op := Go.Op.indexAddr 22 (Go.Operand.tmp 117) (Go.Operand.tmp 120), type := 0, pos := "law.go:140", after := #[{ on := 10, ground := Go.Ground.data }, { on := 13, ground := Go.Ground.data }, { on := 8, ground := Go.Ground.guard }], guard := some (8, false) }) (v := undef) rfl (by kernel_rfl) (by kernel_rfl) (by kernel_rfl) (fun _ _ _ h => h) (Or.inr ⟨by rfl, rfl⟩) (by assumption) ?_
      try simp only [Act.put, List.setIfInBounds_toArray, List.set_cons_zero, List.set_cons_succ]
      refine wpAnyH_take (i := 15) (oi := { dst := some 122, op := Go.Op.fieldAddr 41 (Go.Operand.tmp 121) 1, type := 0, pos := "law.go:140", after := #[{ on := 14, ground := Go.Ground.data }, { on := 8, ground := Go.Ground.guard }], guard := some (8, false) }) (v := undef) rfl (by kernel_rfl) (by kernel_rfl) (by kernel_rfl) (fun _ _ _ h => h) (Or.inr ⟨by rfl, rfl⟩) (by assumption) ?_
      try simp only [Act.put, List.setIfInBounds_toArray, List.set_cons_zero, List.set_cons_succ]
      refine wpAnyH_take (i := 16) (oi := { dst := some 123, op := Go.Op.load 3 (Go.Operand.tmp 122), type := 3, pos := "law.go:140", after := #[{ on := 15, ground := Go.Ground.data }, { on := 8, ground := Go.Ground.guard }], guard := some (8, false) }) (v := undef) rfl (by kernel_rfl) (by kernel_rfl) (by kernel_rfl) (fun _ _ _ h => h) (Or.inr ⟨by rfl, rfl⟩) (by assumption) ?_
      try simp only [Act.put, List.setIfInBounds_toArray, List.set_cons_zero, List.set_cons_succ]
      refine wpAnyH_take (i := 17) (oi := { dst := some 124, op := Go.Op.binOp Go.BinOp.neq 3 (Go.Operand.tmp 123) (Go.Operand.const (Go.Value.int Go.IntKind.i64 0)) 3, type := 4, pos := "law.go:140", after := #[{ on := 16, ground := Go.Ground.data }, { on := 8, ground := Go.Ground.guard }], guard := some (8, false) }) (v := undef) rfl (by kernel_rfl) (by kernel_rfl) (by kernel_rfl) (fun _ _ _ h => h) (Or.inr ⟨by rfl, rfl⟩) (by assumption) ?_
      try simp only [Act.put, List.setIfInBounds_toArray, List.set_cons_zero, List.set_cons_succ]
      refine wpAnyH_take (i := 18) (oi := { dst := some 125, op := Go.Op.pick (Go.Operand.tmp 115) (Go.Operand.const (Go.Value.bool true)) (Go.Operand.tmp 124), type := 4, pos := "law.go:140", after := #[{ on := 8, ground := Go.Ground.data }, { on := 17, ground := Go.Ground.data }], guard := none }) (v := ?vv19) rfl (by kernel_rfl) (by kernel_rfl) (by kernel_rfl) (fun _ _ _ h => h) (Or.inl ⟨by rfl, ?hy19⟩) (by assumption) ?rr19
      case hy19 => intro w hSw; (try dsimp only at hSw); go_simp; all_goals with_reducible rfl
      try simp only [Act.put, List.setIfInBounds_toArray, List.set_cons_zero, List.set_cons_succ]
      refine wpAnyH_take (i := 19) (oi := { dst := some 126, op := Go.Op.move (Go.Operand.tmp 125), type := 4, pos := "law.go:140", after := #[{ on := 18, ground := Go.Ground.data }, { on := 13, ground := Go.Ground.chain }], guard := none }) (v := ?vv20) rfl (by kernel_rfl) (by kernel_rfl) (by kernel_rfl) (fun _ _ _ h => h) (Or.inl ⟨by rfl, ?hy20⟩) (by assumption) ?rr20
      case hy20 => intro w hSw; (try dsimp only at hSw); go_simp; all_goals with_reducible rfl
      try simp only [Act.put, List.setIfInBounds_toArray, List.set_cons_zero, List.set_cons_succ]
      refine wpAnyH_take (i := 20) (oi := { dst := some 127, op := Go.Op.indexAddr 39 (Go.Operand.tmp 5) (Go.Operand.const (Go.Value.int Go.IntKind.i64 0)), type := 0, pos := "law.go:140", after := #[{ on := 19, ground := Go.Ground.guard }], guard := some (19, false) }) (v := undef) rfl (by kernel_rfl) (by kernel_rfl) (by kernel_rfl) (fun _ _ _ h => h) (Or.inr ⟨by rfl, rfl⟩) (by assumption) ?_
      try simp only [Act.put, List.setIfInBounds_toArray, List.set_cons_zero, List.set_cons_succ]
      refine wpAnyH_take (i := 21) (oi := { dst := some 128, op := Go.Op.load 3 (Go.Operand.tmp 127), type := 3, pos := "law.go:140", after := #[{ on := 20, ground := Go.Ground.data }, { on := 19, ground := Go.Ground.guard }], guard := some (19, false) }) (v := undef) rfl (by kernel_rfl) (by kernel_rfl) (by kernel_rfl) (fun _ _ _ h => h) (Or.inr ⟨by rfl, rfl⟩) (by assumption) ?_
      try simp only [Act.put, List.setIfInBounds_toArray, List.set_cons_zero, List.set_cons_succ]
      refine wpAnyH_take (i := 22) (oi := { dst := some 129, op := Go.Op.binOp Go.BinOp.lss 3 (Go.Operand.tmp 128) (Go.Operand.const (Go.Value.int Go.IntKind.i64 1)) 3, type := 4, pos := "law.go:140", after := #[{ on := 21, ground := Go.Ground.data }, { on := 19, ground := Go.Ground.guard }], guard := some (19, false) }) (v := undef) rfl (by kernel_rfl) (by kernel_rfl) (by kernel_rfl) (fun _ _ _ h => h) (Or.inr ⟨by rfl, rfl⟩) (by assumption) ?_
      try simp only [Act.put, List.setIfInBounds_toArray, List.set_cons_zero, List.set_cons_succ]
      refine wpAnyH_take (i := 23) (oi := { dst := some 130, op := Go.Op.pick (Go.Operand.tmp 126) (Go.Operand.const (Go.Value.bool true)) (Go.Operand.tmp 129), type := 4, pos := "law.go:140", after := #[{ on := 19, ground := Go.Ground.data }, { on := 22, ground := Go.Ground.data }], guard := none }) (v := ?vv24) rfl (by kernel_rfl) (by kernel_rfl) (by kernel_rfl) (fun _ _ _ h => h) (Or.inl ⟨by rfl, ?hy24⟩) (by assumption) ?rr24
      case hy24 => intro w hSw; (try dsimp only at hSw); go_simp; all_goals with_reducible rfl
      try simp only [Act.put, List.setIfInBounds_toArray, List.set_cons_zero, List.set_cons_succ]
      refine wpAnyH_take (i := 24) (oi := { dst := some 131, op := Go.Op.move (Go.Operand.tmp 130), type := 4, pos := "law.go:140", after := #[{ on := 23, ground := Go.Ground.data }, { on := 19, ground := Go.Ground.chain }], guard := none }) (v := ?vv25) rfl (by kernel_rfl) (by kernel_rfl) (by kernel_rfl) (fun _ _ _ h => h) (Or.inl ⟨by rfl, ?hy25⟩) (by assumption) ?rr25
      case hy25 => intro w hSw; (try dsimp only at hSw); go_simp; all_goals with_reducible rfl
      try simp only [Act.put, List.setIfInBounds_toArray, List.set_cons_zero, List.set_cons_succ]
      refine wpAnyH_take (i := 25) (oi := { dst := some 132, op := Go.Op.indexAddr 39 (Go.Operand.tmp 5) (Go.Operand.const (Go.Value.int Go.IntKind.i64 0)), type := 0, pos := "law.go:140", after := #[{ on := 24, ground := Go.Ground.guard }], guard := some (24, false) }) (v := undef) rfl (by kernel_rfl) (by kernel_rfl) (by kernel_rfl) (fun _ _ _ h => h) (Or.inr ⟨by rfl, rfl⟩) (by assumption) ?_
      try simp only [Act.put, List.setIfInBounds_toArray, List.set_cons_zero, List.set_cons_succ]
      refine wpAnyH_take (i := 26) (oi := { dst := some 133, op := Go.Op.load 3 (Go.Operand.tmp 132), type := 3, pos := "law.go:140", after := #[{ on := 25, ground := Go.Ground.data }, { on := 24, ground := Go.Ground.guard }], guard := some (24, false) }) (v := undef) rfl (by kernel_rfl) (by kernel_rfl) (by kernel_rfl) (fun _ _ _ h => h) (Or.inr ⟨by rfl, rfl⟩) (by assumption) ?_
      try simp only [Act.put, List.setIfInBounds_toArray, List.set_cons_zero, List.set_cons_succ]
      refine wpAnyH_take (i := 27) (oi := { dst := some 134, op := Go.Op.binOp Go.BinOp.mul 3 (Go.Operand.const (Go.Value.int Go.IntKind.i64 2)) (Go.Operand.tmp 133) 3, type := 3, pos := "law.go:140", after := #[{ on := 26, ground := Go.Ground.data }, { on := 24, ground := Go.Ground.guard }], guard := some (24, false) }) (v := undef) rfl (by kernel_rfl) (by kernel_rfl) (by kernel_rfl) (fun _ _ _ h => h) (Or.inr ⟨by rfl, rfl⟩) (by assumption) ?_
      try simp only [Act.put, List.setIfInBounds_toArray, List.set_cons_zero, List.set_cons_succ]
      refine wpAnyH_take (i := 28) (oi := { dst := some 135, op := Go.Op.binOp Go.BinOp.add 3 (Go.Operand.tmp 134) (Go.Operand.const (Go.Value.int Go.IntKind.i64 1)) 3, type := 3, pos := "law.go:140", after := #[{ on := 27, ground := Go.Ground.data }, { on := 24, ground := Go.Ground.guard }], guard := some (24, false) }) (v := undef) rfl (by kernel_rfl) (by kernel_rfl) (by kernel_rfl) (fun _ _ _ h => h) (Or.inr ⟨by rfl, rfl⟩) (by assumption) ?_
      try simp only [Act.put, List.setIfInBounds_toArray, List.set_cons_zero, List.set_cons_succ]
      refine wpAnyH_take (i := 29) (oi := { dst := some 136, op := Go.Op.move (Go.Operand.tmp 15), type := 3, pos := "law.go:140", after := #[{ on := 24, ground := Go.Ground.guard }], guard := some (24, false) }) (v := undef) rfl (by kernel_rfl) (by kernel_rfl) (by kernel_rfl) (fun _ _ _ h => h) (Or.inr ⟨by rfl, rfl⟩) (by assumption) ?_
      try simp only [Act.put, List.setIfInBounds_toArray, List.set_cons_zero, List.set_cons_succ]
      refine wpAnyH_take (i := 30) (oi := { dst := some 137, op := Go.Op.binOp Go.BinOp.gtr 3 (Go.Operand.tmp 135) (Go.Operand.tmp 136) 3, type := 4, pos := "law.go:140", after := #[{ on := 28, ground := Go.Ground.data }, { on := 29, ground := Go.Ground.data }, { on := 24, ground := Go.Ground.guard }], guard := some (24, false) }) (v := undef) rfl (by kernel_rfl) (by kernel_rfl) (by kernel_rfl) (fun _ _ _ h => h) (Or.inr ⟨by rfl, rfl⟩) (by assumption) ?_
      try simp only [Act.put, List.setIfInBounds_toArray, List.set_cons_zero, List.set_cons_succ]
      refine wpAnyH_take (i := 31) (oi := { dst := some 138, op := Go.Op.pick (Go.Operand.tmp 131) (Go.Operand.const (Go.Value.bool true)) (Go.Operand.tmp 137), type := 4, pos := "law.go:140", after := #[{ on := 24, ground := Go.Ground.data }, { on := 30, ground := Go.Ground.data }], guard := none }) (v := ?vv32) rfl (by kernel_rfl) (by kernel_rfl) (by kernel_rfl) (fun _ _ _ h => h) (Or.inl ⟨by rfl, ?hy32⟩) (by assumption) ?rr32
      case hy32 => intro w hSw; (try dsimp only at hSw); go_simp; all_goals with_reducible rfl
      try simp only [Act.put, List.setIfInBounds_toArray, List.set_cons_zero, List.set_cons_succ]
      refine wpAnyH_take (i := 32) (oi := { dst := some 6, op := Go.Op.assign (Go.Operand.tmp 138), type := 4, pos := "law.go:140", after := #[{ on := 31, ground := Go.Ground.data }, { on := 24, ground := Go.Ground.chain }, { on := 0, ground := Go.Ground.phase }, { on := 1, ground := Go.Ground.phase }, { on := 2, ground := Go.Ground.phase }, { on := 3, ground := Go.Ground.phase }, { on := 4, ground := Go.Ground.phase }, { on := 5, ground := Go.Ground.phase }, { on := 6, ground := Go.Ground.phase }, { on := 7, ground := Go.Ground.phase }, { on := 8, ground := Go.Ground.phase }, { on := 9, ground := Go.Ground.phase }, { on := 10, ground := Go.Ground.phase }, { on := 11, ground := Go.Ground.phase }, { on := 12, ground := Go.Ground.phase }, { on := 13, ground := Go.Ground.phase }, { on := 14, ground := Go.Ground.phase }, { on := 15, ground := Go.Ground.phase }, { on := 16, ground := Go.Ground.phase }, { on := 17, ground := Go.Ground.phase }, { on := 18, ground := Go.Ground.phase }, { on := 19, ground := Go.Ground.phase }, { on := 20, ground := Go.Ground.phase }, { on := 21, ground := Go.Ground.phase }, { on := 22, ground := Go.Ground.phase }, { on := 23, ground := Go.Ground.phase }, { on := 24, ground := Go.Ground.phase }, { on := 25, ground := Go.Ground.phase }, { on := 26, ground := Go.Ground.phase }, { on := 27, ground := Go.Ground.phase }, { on := 28, ground := Go.Ground.phase }, { on := 29, ground := Go.Ground.phase }, { on := 30, ground := Go.Ground.phase }, { on := 31, ground := Go.Ground.phase }], guard := none }) (v := ?vv33) rfl (by kernel_rfl) (by kernel_rfl) (by kernel_rfl) (fun _ _ _ h => h) (Or.inl ⟨by rfl, ?hy33⟩) (by assumption) ?rr33
      case hy33 => intro w hSw; (try dsimp only at hSw); go_simp; all_goals with_reducible rfl
      try simp only [Act.put, List.setIfInBounds_toArray, List.set_cons_zero, List.set_cons_succ]
      refine wpAnyH_done (by kernel_rfl) ?_ _
      go_wp2_with fail
      go_ret
      exact ⟨rfl, then_w HB13.out (hH0.2.2.2.2.2)⟩
    obtain ⟨n, hn⟩ : ∃ n : Int, n = ((obAt h s).slots.length + (obAt h s).text.size : Int) := ⟨_, rfl⟩
    rw [← hn] at d3 d4
    have D4 := hid d4
    have D5 := hid d3
    have HR := hid hr
    clear d4 d3 hr hn D3
    have x0 := HX11.out.cell 0
    have x1 := HX11.out.cell 1
    have x2 := HX11.out.cell 2
    simp only [List.getElem?_toArray, List.getElem?_cons_zero, List.getElem?_cons_succ] at x0 x1 x2
    have k0 := HK11.out.cell 0
    have k1 := HK11.out.cell 1
    simp only [List.getElem?_toArray, List.getElem?_cons_zero, List.getElem?_cons_succ] at k0 k1
    go_wp2_with fail
    clear x0 x1 x2 k0 k1
    refine (cdo_any13 h 10 s [] none 0 A c _ (HS.out.below HB11.out) HF.out (fun h => absurd h (by decide)) (by decide) HWD.out).mono ?_
    rintro e w12 ⟨A4, c4, rfl, -, hb⟩
    rw [D5.out]
    have HB12 := hid (then_w HB11.out hb)
    have HX12 := hid (HX11.out.later hb)
    have HK12 := hid (HK11.out.later hb)
    clear hb
    clear HB11 HX11 HK11
    go_upto_region 9 with fail
    obtain ⟨w13, hw⟩ : ∃ x, x = w12.alloc (.cells #[.slice A4 h.objs.length c4, .int .i64 h.cap, .int .i64 h.last] 24) := ⟨_, rfl⟩
    have hb : Below w12.heap.size w12 w13 := by rw [hw]; exact below_alloc _ _
    rw [← hw]
    clear hw
    have HB13 := hid (then_w HB12.out hb)
    have HX13 := hid (HX12.out.later hb)
    have HK13 := hid (HK12.out.later hb)
    clear hb
    clear HB12 HX12 HK12
    obtain ⟨i, b, off, S, d, hri, hil, rfl, hob, -, -⟩ := ob_read9 HS.out HB13.out HR.out
    obtain ⟨-, z1, -, -, -, -⟩ := hob
    have hi0 : (0 : Int) ≤ (i : Int) := by omega
    have hil2 : (i : Int) < (h.objs.length : Int) := by omega
    have hi3 : ¬ (i : Int) < 0 := by omega
    have hi4 : decide ((i : Int) < 0) = false := decide_eq_false hi3
    obtain ⟨kd, hkd⟩ : ∃ y, y = (obAt h s).kind := ⟨_, rfl⟩
    rw [← hkd] at z1 D4
    clear hkd
    by_cases hk : kd = 0
    case neg =>
      have hk2 : (kd != 0) = true := by simpa using hk
      have hk3 : decide (kd = 0) = false := decide_eq_false hk
      have x0 := HX13.out.cell 0
      have x1 := HX13.out.cell 1
      have x2 := HX13.out.cell 2
      simp only [List.getElem?_toArray, List.getElem?_cons_zero, List.getElem?_cons_succ] at x0 x1 x2
      have k0 := HK13.out.cell 0
      have k1 := HK13.out.cell 1
      simp only [List.getElem?_toArray, List.getElem?_cons_zero, List.getElem?_cons_succ] at k0 k1
      go_upto_region 10 with fail
      refine wp_region_held_drew (S := (fun w' => w'.cell? ⟨w.heap.size, 0, none⟩ = some (.slice (some ⟨b, off, none⟩) h.objs.length c) ∧ w'.cell? ⟨w.heap.size, 1, none⟩ = some (.int .i64 h.cap) ∧ w'.cell? ⟨w.heap.size, 2, none⟩ = some (.int .i64 h.last) ∧ w'.cell? ⟨w.heap.size + 1, 0, none⟩ = some (.int .i64 k) ∧ w'.cell? ⟨w.heap.size + 1, 1, none⟩ = some (.int .i64 x) ∧ w'.cell? ⟨b, off + i * 6 + 1, none⟩ = some (.int .i64 kd) ∧ Below w13.heap.size w13 w')) (by kernel_rfl) ?_ (fun hH0 => ?_)
      · exact ⟨cell_later (Below.refl w13.heap.size w13).drew x0, cell_later (Below.refl w13.heap.size w13).drew x1, cell_later (Below.refl w13.heap.size w13).drew x2, cell_later (Below.refl w13.heap.size w13).drew k0, cell_later (Below.refl w13.heap.size w13).drew k1, cell_later (Below.refl w13.heap.size w13).drew z1, (Below.refl _ _).drew⟩
      refine wpAnyH_take (i := 0) (oi := { dst := some 107, op := Go.Op.move (Go.Operand.tmp 16), type := 30, pos := "law.go:140", after := #[], guard := none }) (v := ?vv34) rfl (by kernel_rfl) (by kernel_rfl) (by kernel_rfl) (fun _ _ _ h => h) (Or.inl ⟨by rfl, ?hy34⟩) (by assumption) ?rr34
      case hy34 => intro w hSw; (try dsimp only at hSw); go_simp; all_goals with_reducible rfl
      try simp only [Act.put, List.setIfInBounds_toArray, List.set_cons_zero, List.set_cons_succ]
      refine wpAnyH_take (i := 1) (oi := { dst := some 108, op := Go.Op.binOp Go.BinOp.neq 30 (Go.Operand.tmp 107) (Go.Operand.const (Go.Value.int Go.IntKind.i64 0)) 30, type := 4, pos := "law.go:140", after := #[{ on := 0, ground := Go.Ground.data }], guard := none }) (v := ?vv35) rfl (by kernel_rfl) (by kernel_rfl) (by kernel_rfl) (fun _ _ _ h => h) (Or.inl ⟨by rfl, ?hy35⟩) (by assumption) ?rr35
      case hy35 => intro w hSw; (try dsimp only at hSw); go_simp; all_goals with_reducible rfl
      try simp only [Act.put, List.setIfInBounds_toArray, List.set_cons_zero, List.set_cons_succ]
      refine wpAnyH_take (i := 2) (oi := { dst := some 109, op := Go.Op.move (Go.Operand.tmp 108), type := 4, pos := "law.go:140", after := #[{ on := 1, ground := Go.Ground.data }], guard := none }) (v := ?vv36) rfl (by kernel_rfl) (by kernel_rfl) (by kernel_rfl) (fun _ _ _ h => h) (Or.inl ⟨by rfl, ?hy36⟩) (by assumption) ?rr36
      case hy36 => intro w hSw; (try dsimp only at hSw); go_simp; all_goals with_reducible rfl
      try simp only [Act.put, List.setIfInBounds_toArray, List.set_cons_zero, List.set_cons_succ]
      refine wpAnyH_take (i := 3) (oi := { dst := some 110, op := Go.Op.load 24 (Go.Operand.tmp 3), type := 24, pos := "law.go:140", after := #[{ on := 2, ground := Go.Ground.guard }], guard := some (2, false) }) (v := ?vv37) rfl (by kernel_rfl) (by kernel_rfl) (by kernel_rfl) (fun _ _ _ h => h) (Or.inl ⟨by rfl, ?hy37⟩) (by assumption) ?rr37
      case hy37 => intro w hSw; (try dsimp only at hSw); go_simp; all_goals with_reducible rfl
      try simp only [Act.put, List.setIfInBounds_toArray, List.set_cons_zero, List.set_cons_succ]
      refine wpAnyH_take (i := 4) (oi := { dst := some 111, op := Go.Op.move (Go.Operand.tmp 1), type := 3, pos := "law.go:140", after := #[{ on := 2, ground := Go.Ground.guard }], guard := some (2, false) }) (v := ?vv38) rfl (by kernel_rfl) (by kernel_rfl) (by kernel_rfl) (fun _ _ _ h => h) (Or.inl ⟨by rfl, ?hy38⟩) (by assumption) ?rr38
      case hy38 => intro w hSw; (try dsimp only at hSw); go_simp; all_goals with_reducible rfl
      try simp only [Act.put, List.setIfInBounds_toArray, List.set_cons_zero, List.set_cons_succ]
      refine wpAnyH_ready (rs := [5]) (by kernel_rfl) (by simp) ?_
      refine AllReadyH.cons (i := 5) (o := { dst := some 112, op := Go.Op.call { callee := Go.Callee.value (Go.Operand.func 22), args := #[Go.Operand.tmp 110, Go.Operand.tmp 111], argTypes := #[24, 3] }, type := 3, pos := "law.go:140", after := #[{ on := 3, ground := Go.Ground.data }, { on := 4, ground := Go.Ground.data }, { on := 2, ground := Go.Ground.chain }, { on := 2, ground := Go.Ground.guard }], guard := some (2, false) }) rfl (fun K hK => ?_) AllReadyH.nil
      go_simp
      go_at_call 22
      refine (rref_any h s (some ⟨b, off, none⟩) c _).mono ?_
      rintro e u1 ⟨rfl, hb⟩
      rw [hri]
      refine hK.out _ _ ?_ (fun hH1 => ?_)
      · exact ⟨cell_later hb hH0.1, cell_later hb hH0.2.1, cell_later hb hH0.2.2.1, cell_later hb hH0.2.2.2.1, cell_later hb hH0.2.2.2.2.1, cell_later hb hH0.2.2.2.2.2.1, then_w hH0.2.2.2.2.2.2 hb⟩
      clear hK K
      try simp only [Act.put, List.setIfInBounds_toArray, List.set_cons_zero, List.set_cons_succ]
      clear hb
      refine wpAnyH_take (i := 6) (oi := { dst := some 113, op := Go.Op.binOp Go.BinOp.lss 3 (Go.Operand.tmp 112) (Go.Operand.const (Go.Value.int Go.IntKind.i64 0)) 3, type := 4, pos := "law.go:140", after := #[{ on := 5, ground := Go.Ground.data }, { on := 2, ground := Go.Ground.guard }], guard := some (2, false) }) (v := ?vv39) rfl (by kernel_rfl) (by kernel_rfl) (by kernel_rfl) (fun _ _ _ h => h) (Or.inl ⟨by rfl, ?hy39⟩) (by assumption) ?rr39
      case hy39 => intro w hSw; (try dsimp only at hSw); go_simp; all_goals with_reducible rfl
      try simp only [Act.put, List.setIfInBounds_toArray, List.set_cons_zero, List.set_cons_succ]
      refine wpAnyH_take (i := 7) (oi := { dst := some 114, op := Go.Op.pick (Go.Operand.tmp 109) (Go.Operand.const (Go.Value.bool true)) (Go.Operand.tmp 113), type := 4, pos := "law.go:140", after := #[{ on := 2, ground := Go.Ground.data }, { on := 6, ground := Go.Ground.data }], guard := none }) (v := ?vv40) rfl (by kernel_rfl) (by kernel_rfl) (by kernel_rfl) (fun _ _ _ h => h) (Or.inl ⟨by rfl, ?hy40⟩) (by assumption) ?rr40
      case hy40 => intro w hSw; (try dsimp only at hSw); go_simp; all_goals with_reducible rfl
      try simp only [Act.put, List.setIfInBounds_toArray, List.set_cons_zero, List.set_cons_succ]
      refine wpAnyH_take (i := 8) (oi := { dst := some 115, op := Go.Op.move (Go.Operand.tmp 114), type := 4, pos := "law.go:140", after := #[{ on := 7, ground := Go.Ground.data }, { on := 5, ground := Go.Ground.chain }], guard := none }) (v := ?vv41) rfl (by kernel_rfl) (by kernel_rfl) (by kernel_rfl) (fun _ _ _ h => h) (Or.inl ⟨by rfl, ?hy41⟩) (by assumption) ?rr41
      case hy41 => intro w hSw; (try dsimp only at hSw); go_simp; all_goals with_reducible rfl
      try simp only [Act.put, List.setIfInBounds_toArray, List.set_cons_zero, List.set_cons_succ]
      refine wpAnyH_take (i := 9) (oi := { dst := some 116, op := Go.Op.fieldAddr 24 (Go.Operand.tmp 3) 0, type := 0, pos := "law.go:140", after := #[{ on := 8, ground := Go.Ground.guard }], guard := some (8, false) }) (v := ?vv42) rfl (by kernel_rfl) (by kernel_rfl) (by kernel_rfl) (fun _ _ _ h => h) (Or.inl ⟨by rfl, ?hy42⟩) (by assumption) ?rr42
      case hy42 => intro w hSw; (try dsimp only at hSw); go_simp; all_goals with_reducible rfl
      try simp only [Act.put, List.setIfInBounds_toArray, List.set_cons_zero, List.set_cons_succ]
      refine wpAnyH_take (i := 10) (oi := { dst := some 117, op := Go.Op.load 22 (Go.Operand.tmp 116), type := 22, pos := "law.go:140", after := #[{ on := 9, ground := Go.Ground.data }, { on := 8, ground := Go.Ground.guard }], guard := some (8, false) }) (v := ?vv43) rfl (by kernel_rfl) (by kernel_rfl) (by kernel_rfl) (fun _ _ _ h => h) (Or.inl ⟨by rfl, ?hy43⟩) (by assumption) ?rr43
      case hy43 => intro w hSw; (try dsimp only at hSw); go_simp; all_goals with_reducible rfl
      try simp only [Act.put, List.setIfInBounds_toArray, List.set_cons_zero, List.set_cons_succ]
      refine wpAnyH_take (i := 11) (oi := { dst := some 118, op := Go.Op.load 24 (Go.Operand.tmp 3), type := 24, pos := "law.go:140", after := #[{ on := 8, ground := Go.Ground.guard }], guard := some (8, false) }) (v := ?vv44) rfl (by kernel_rfl) (by kernel_rfl) (by kernel_rfl) (fun _ _ _ h => h) (Or.inl ⟨by rfl, ?hy44⟩) (by assumption) ?rr44
      case hy44 => intro w hSw; (try dsimp only at hSw); go_simp; all_goals with_reducible rfl
      try simp only [Act.put, List.setIfInBounds_toArray, List.set_cons_zero, List.set_cons_succ]
      refine wpAnyH_take (i := 12) (oi := { dst := some 119, op := Go.Op.move (Go.Operand.tmp 1), type := 3, pos := "law.go:140", after := #[{ on := 8, ground := Go.Ground.guard }], guard := some (8, false) }) (v := ?vv45) rfl (by kernel_rfl) (by kernel_rfl) (by kernel_rfl) (fun _ _ _ h => h) (Or.inl ⟨by rfl, ?hy45⟩) (by assumption) ?rr45
      case hy45 => intro w hSw; (try dsimp only at hSw); go_simp; all_goals with_reducible rfl
      try simp only [Act.put, List.setIfInBounds_toArray, List.set_cons_zero, List.set_cons_succ]
      refine wpAnyH_ready (rs := [13]) (by kernel_rfl) (by simp) ?_
      refine AllReadyH.cons (i := 13) (o := { dst := some 120, op := Go.Op.call { callee := Go.Callee.value (Go.Operand.func 22), args := #[Go.Operand.tmp 118, Go.Operand.tmp 119], argTypes := #[24, 3] }, type := 3, pos := "law.go:140", after := #[{ on := 11, ground := Go.Ground.data }, { on := 12, ground := Go.Ground.data }, { on := 8, ground := Go.Ground.chain }, { on := 8, ground := Go.Ground.guard }], guard := some (8, false) }) rfl (fun K hK => ?_) AllReadyH.nil
      go_simp
      go_at_call 22
      refine (rref_any h s (some ⟨b, off, none⟩) c _).mono ?_
      rintro e u2 ⟨rfl, hb⟩
      rw [hri]
      refine hK.out _ _ ?_ (fun hH2 => ?_)
      · exact ⟨cell_later hb hH1.1, cell_later hb hH1.2.1, cell_later hb hH1.2.2.1, cell_later hb hH1.2.2.2.1, cell_later hb hH1.2.2.2.2.1, cell_later hb hH1.2.2.2.2.2.1, then_w hH1.2.2.2.2.2.2 hb⟩
      clear hK K
      try simp only [Act.put, List.setIfInBounds_toArray, List.set_cons_zero, List.set_cons_succ]
      clear hb
      refine wpAnyH_take (i := 14) (oi := { dst := some 121, op := Go.Op.indexAddr 22 (Go.Operand.tmp 117) (Go.Operand.tmp 120), type := 0, pos := "law.go:140", after := #[{ on := 10, ground := Go.Ground.data }, { on := 13, ground := Go.Ground.data }, { on := 8, ground := Go.Ground.guard }], guard := some (8, false) }) (v := ?vv46) rfl (by kernel_rfl) (by kernel_rfl) (by kernel_rfl) (fun _ _ _ h => h) (Or.inl ⟨by rfl, ?hy46⟩) (by assumption) ?rr46
      case hy46 => intro w hSw; (try dsimp only at hSw); go_simp; all_goals with_reducible rfl
      try simp only [Act.put, List.setIfInBounds_toArray, List.set_cons_zero, List.set_cons_succ]
      refine wpAnyH_take (i := 15) (oi := { dst := some 122, op := Go.Op.fieldAddr 41 (Go.Operand.tmp 121) 1, type := 0, pos := "law.go:140", after := #[{ on := 14, ground := Go.Ground.data }, { on := 8, ground := Go.Ground.guard }], guard := some (8, false) }) (v := ?vv47) rfl (by kernel_rfl) (by kernel_rfl) (by kernel_rfl) (fun _ _ _ h => h) (Or.inl ⟨by rfl, ?hy47⟩) (by assumption) ?rr47
      case hy47 => intro w hSw; (try dsimp only at hSw); go_simp; all_goals with_reducible rfl
      try simp only [Act.put, List.setIfInBounds_toArray, List.set_cons_zero, List.set_cons_succ]
      refine wpAnyH_take (i := 16) (oi := { dst := some 123, op := Go.Op.load 3 (Go.Operand.tmp 122), type := 3, pos := "law.go:140", after := #[{ on := 15, ground := Go.Ground.data }, { on := 8, ground := Go.Ground.guard }], guard := some (8, false) }) (v := ?vv48) rfl (by kernel_rfl) (by kernel_rfl) (by kernel_rfl) (fun _ _ _ h => h) (Or.inl ⟨by rfl, ?hy48⟩) (by assumption) ?rr48
      case hy48 => intro w hSw; (try dsimp only at hSw); go_simp; all_goals with_reducible rfl
      try simp only [Act.put, List.setIfInBounds_toArray, List.set_cons_zero, List.set_cons_succ]
      refine wpAnyH_take (i := 17) (oi := { dst := some 124, op := Go.Op.binOp Go.BinOp.neq 3 (Go.Operand.tmp 123) (Go.Operand.const (Go.Value.int Go.IntKind.i64 0)) 3, type := 4, pos := "law.go:140", after := #[{ on := 16, ground := Go.Ground.data }, { on := 8, ground := Go.Ground.guard }], guard := some (8, false) }) (v := ?vv49) rfl (by kernel_rfl) (by kernel_rfl) (by kernel_rfl) (fun _ _ _ h => h) (Or.inl ⟨by rfl, ?hy49⟩) (by assumption) ?rr49
      case hy49 => intro w hSw; (try dsimp only at hSw); go_simp; all_goals with_reducible rfl
      try simp only [Act.put, List.setIfInBounds_toArray, List.set_cons_zero, List.set_cons_succ]
      refine wpAnyH_take (i := 18) (oi := { dst := some 125, op := Go.Op.pick (Go.Operand.tmp 115) (Go.Operand.const (Go.Value.bool true)) (Go.Operand.tmp 124), type := 4, pos := "law.go:140", after := #[{ on := 8, ground := Go.Ground.data }, { on := 17, ground := Go.Ground.data }], guard := none }) (v := ?vv50) rfl (by kernel_rfl) (by kernel_rfl) (by kernel_rfl) (fun _ _ _ h => h) (Or.inl ⟨by rfl, ?hy50⟩) (by assumption) ?rr50
      case hy50 => intro w hSw; (try dsimp only at hSw); go_simp; all_goals with_reducible rfl
      try simp only [Act.put, List.setIfInBounds_toArray, List.set_cons_zero, List.set_cons_succ]
      refine wpAnyH_take (i := 19) (oi := { dst := some 126, op := Go.Op.move (Go.Operand.tmp 125), type := 4, pos := "law.go:140", after := #[{ on := 18, ground := Go.Ground.data }, { on := 13, ground := Go.Ground.chain }], guard := none }) (v := ?vv51) rfl (by kernel_rfl) (by kernel_rfl) (by kernel_rfl) (fun _ _ _ h => h) (Or.inl ⟨by rfl, ?hy51⟩) (by assumption) ?rr51
      case hy51 => intro w hSw; (try dsimp only at hSw); go_simp; all_goals with_reducible rfl
      try simp only [Act.put, List.setIfInBounds_toArray, List.set_cons_zero, List.set_cons_succ]
      refine wpAnyH_take (i := 20) (oi := { dst := some 127, op := Go.Op.indexAddr 39 (Go.Operand.tmp 5) (Go.Operand.const (Go.Value.int Go.IntKind.i64 0)), type := 0, pos := "law.go:140", after := #[{ on := 19, ground := Go.Ground.guard }], guard := some (19, false) }) (v := undef) rfl (by kernel_rfl) (by kernel_rfl) (by kernel_rfl) (fun _ _ _ h => h) (Or.inr ⟨by rfl, rfl⟩) (by assumption) ?_
      try simp only [Act.put, List.setIfInBounds_toArray, List.set_cons_zero, List.set_cons_succ]
      refine wpAnyH_take (i := 21) (oi := { dst := some 128, op := Go.Op.load 3 (Go.Operand.tmp 127), type := 3, pos := "law.go:140", after := #[{ on := 20, ground := Go.Ground.data }, { on := 19, ground := Go.Ground.guard }], guard := some (19, false) }) (v := undef) rfl (by kernel_rfl) (by kernel_rfl) (by kernel_rfl) (fun _ _ _ h => h) (Or.inr ⟨by rfl, rfl⟩) (by assumption) ?_
      try simp only [Act.put, List.setIfInBounds_toArray, List.set_cons_zero, List.set_cons_succ]
      refine wpAnyH_take (i := 22) (oi := { dst := some 129, op := Go.Op.binOp Go.BinOp.lss 3 (Go.Operand.tmp 128) (Go.Operand.const (Go.Value.int Go.IntKind.i64 1)) 3, type := 4, pos := "law.go:140", after := #[{ on := 21, ground := Go.Ground.data }, { on := 19, ground := Go.Ground.guard }], guard := some (19, false) }) (v := undef) rfl (by kernel_rfl) (by kernel_rfl) (by kernel_rfl) (fun _ _ _ h => h) (Or.inr ⟨by rfl, rfl⟩) (by assumption) ?_
      try simp only [Act.put, List.setIfInBounds_toArray, List.set_cons_zero, List.set_cons_succ]
      refine wpAnyH_take (i := 23) (oi := { dst := some 130, op := Go.Op.pick (Go.Operand.tmp 126) (Go.Operand.const (Go.Value.bool true)) (Go.Operand.tmp 129), type := 4, pos := "law.go:140", after := #[{ on := 19, ground := Go.Ground.data }, { on := 22, ground := Go.Ground.data }], guard := none }) (v := ?vv55) rfl (by kernel_rfl) (by kernel_rfl) (by kernel_rfl) (fun _ _ _ h => h) (Or.inl ⟨by rfl, ?hy55⟩) (by assumption) ?rr55
      case hy55 => intro w hSw; (try dsimp only at hSw); go_simp; all_goals with_reducible rfl
      try simp only [Act.put, List.setIfInBounds_toArray, List.set_cons_zero, List.set_cons_succ]
      refine wpAnyH_take (i := 24) (oi := { dst := some 131, op := Go.Op.move (Go.Operand.tmp 130), type := 4, pos := "law.go:140", after := #[{ on := 23, ground := Go.Ground.data }, { on := 19, ground := Go.Ground.chain }], guard := none }) (v := ?vv56) rfl (by kernel_rfl) (by kernel_rfl) (by kernel_rfl) (fun _ _ _ h => h) (Or.inl ⟨by rfl, ?hy56⟩) (by assumption) ?rr56
      case hy56 => intro w hSw; (try dsimp only at hSw); go_simp; all_goals with_reducible rfl
      try simp only [Act.put, List.setIfInBounds_toArray, List.set_cons_zero, List.set_cons_succ]
      refine wpAnyH_take (i := 25) (oi := { dst := some 132, op := Go.Op.indexAddr 39 (Go.Operand.tmp 5) (Go.Operand.const (Go.Value.int Go.IntKind.i64 0)), type := 0, pos := "law.go:140", after := #[{ on := 24, ground := Go.Ground.guard }], guard := some (24, false) }) (v := undef) rfl (by kernel_rfl) (by kernel_rfl) (by kernel_rfl) (fun _ _ _ h => h) (Or.inr ⟨by rfl, rfl⟩) (by assumption) ?_
      try simp only [Act.put, List.setIfInBounds_toArray, List.set_cons_zero, List.set_cons_succ]
      refine wpAnyH_take (i := 26) (oi := { dst := some 133, op := Go.Op.load 3 (Go.Operand.tmp 132), type := 3, pos := "law.go:140", after := #[{ on := 25, ground := Go.Ground.data }, { on := 24, ground := Go.Ground.guard }], guard := some (24, false) }) (v := undef) rfl (by kernel_rfl) (by kernel_rfl) (by kernel_rfl) (fun _ _ _ h => h) (Or.inr ⟨by rfl, rfl⟩) (by assumption) ?_
      try simp only [Act.put, List.setIfInBounds_toArray, List.set_cons_zero, List.set_cons_succ]
      refine wpAnyH_take (i := 27) (oi := { dst := some 134, op := Go.Op.binOp Go.BinOp.mul 3 (Go.Operand.const (Go.Value.int Go.IntKind.i64 2)) (Go.Operand.tmp 133) 3, type := 3, pos := "law.go:140", after := #[{ on := 26, ground := Go.Ground.data }, { on := 24, ground := Go.Ground.guard }], guard := some (24, false) }) (v := undef) rfl (by kernel_rfl) (by kernel_rfl) (by kernel_rfl) (fun _ _ _ h => h) (Or.inr ⟨by rfl, rfl⟩) (by assumption) ?_
      try simp only [Act.put, List.setIfInBounds_toArray, List.set_cons_zero, List.set_cons_succ]
      refine wpAnyH_take (i := 28) (oi := { dst := some 135, op := Go.Op.binOp Go.BinOp.add 3 (Go.Operand.tmp 134) (Go.Operand.const (Go.Value.int Go.IntKind.i64 1)) 3, type := 3, pos := "law.go:140", after := #[{ on := 27, ground := Go.Ground.data }, { on := 24, ground := Go.Ground.guard }], guard := some (24, false) }) (v := undef) rfl (by kernel_rfl) (by kernel_rfl) (by kernel_rfl) (fun _ _ _ h => h) (Or.inr ⟨by rfl, rfl⟩) (by assumption) ?_
      try simp only [Act.put, List.setIfInBounds_toArray, List.set_cons_zero, List.set_cons_succ]
      refine wpAnyH_take (i := 29) (oi := { dst := some 136, op := Go.Op.move (Go.Operand.tmp 15), type := 3, pos := "law.go:140", after := #[{ on := 24, ground := Go.Ground.guard }], guard := some (24, false) }) (v := undef) rfl (by kernel_rfl) (by kernel_rfl) (by kernel_rfl) (fun _ _ _ h => h) (Or.inr ⟨by rfl, rfl⟩) (by assumption) ?_
      try simp only [Act.put, List.setIfInBounds_toArray, List.set_cons_zero, List.set_cons_succ]
      refine wpAnyH_take (i := 30) (oi := { dst := some 137, op := Go.Op.binOp Go.BinOp.gtr 3 (Go.Operand.tmp 135) (Go.Operand.tmp 136) 3, type := 4, pos := "law.go:140", after := #[{ on := 28, ground := Go.Ground.data }, { on := 29, ground := Go.Ground.data }, { on := 24, ground := Go.Ground.guard }], guard := some (24, false) }) (v := undef) rfl (by kernel_rfl) (by kernel_rfl) (by kernel_rfl) (fun _ _ _ h => h) (Or.inr ⟨by rfl, rfl⟩) (by assumption) ?_
      try simp only [Act.put, List.setIfInBounds_toArray, List.set_cons_zero, List.set_cons_succ]
      refine wpAnyH_take (i := 31) (oi := { dst := some 138, op := Go.Op.pick (Go.Operand.tmp 131) (Go.Operand.const (Go.Value.bool true)) (Go.Operand.tmp 137), type := 4, pos := "law.go:140", after := #[{ on := 24, ground := Go.Ground.data }, { on := 30, ground := Go.Ground.data }], guard := none }) (v := ?vv63) rfl (by kernel_rfl) (by kernel_rfl) (by kernel_rfl) (fun _ _ _ h => h) (Or.inl ⟨by rfl, ?hy63⟩) (by assumption) ?rr63
      case hy63 => intro w hSw; (try dsimp only at hSw); go_simp; all_goals with_reducible rfl
      try simp only [Act.put, List.setIfInBounds_toArray, List.set_cons_zero, List.set_cons_succ]
      refine wpAnyH_take (i := 32) (oi := { dst := some 6, op := Go.Op.assign (Go.Operand.tmp 138), type := 4, pos := "law.go:140", after := #[{ on := 31, ground := Go.Ground.data }, { on := 24, ground := Go.Ground.chain }, { on := 0, ground := Go.Ground.phase }, { on := 1, ground := Go.Ground.phase }, { on := 2, ground := Go.Ground.phase }, { on := 3, ground := Go.Ground.phase }, { on := 4, ground := Go.Ground.phase }, { on := 5, ground := Go.Ground.phase }, { on := 6, ground := Go.Ground.phase }, { on := 7, ground := Go.Ground.phase }, { on := 8, ground := Go.Ground.phase }, { on := 9, ground := Go.Ground.phase }, { on := 10, ground := Go.Ground.phase }, { on := 11, ground := Go.Ground.phase }, { on := 12, ground := Go.Ground.phase }, { on := 13, ground := Go.Ground.phase }, { on := 14, ground := Go.Ground.phase }, { on := 15, ground := Go.Ground.phase }, { on := 16, ground := Go.Ground.phase }, { on := 17, ground := Go.Ground.phase }, { on := 18, ground := Go.Ground.phase }, { on := 19, ground := Go.Ground.phase }, { on := 20, ground := Go.Ground.phase }, { on := 21, ground := Go.Ground.phase }, { on := 22, ground := Go.Ground.phase }, { on := 23, ground := Go.Ground.phase }, { on := 24, ground := Go.Ground.phase }, { on := 25, ground := Go.Ground.phase }, { on := 26, ground := Go.Ground.phase }, { on := 27, ground := Go.Ground.phase }, { on := 28, ground := Go.Ground.phase }, { on := 29, ground := Go.Ground.phase }, { on := 30, ground := Go.Ground.phase }, { on := 31, ground := Go.Ground.phase }], guard := none }) (v := ?vv64) rfl (by kernel_rfl) (by kernel_rfl) (by kernel_rfl) (fun _ _ _ h => h) (Or.inl ⟨by rfl, ?hy64⟩) (by assumption) ?rr64
      case hy64 => intro w hSw; (try dsimp only at hSw); go_simp; all_goals with_reducible rfl
      try simp only [Act.put, List.setIfInBounds_toArray, List.set_cons_zero, List.set_cons_succ]
      refine wpAnyH_done (by kernel_rfl) ?_ _
      go_wp2_with fail
      go_ret
      exact ⟨rfl, then_w HB13.out (hH2.2.2.2.2.2.2)⟩
    subst hk
    by_cases hk1 : k < 1
    case pos =>
      have hk2 : decide (k < 1) = true := decide_eq_true hk1
      have x0 := HX13.out.cell 0
      have x1 := HX13.out.cell 1
      have x2 := HX13.out.cell 2
      simp only [List.getElem?_toArray, List.getElem?_cons_zero, List.getElem?_cons_succ] at x0 x1 x2
      have k0 := HK13.out.cell 0
      have k1 := HK13.out.cell 1
      simp only [List.getElem?_toArray, List.getElem?_cons_zero, List.getElem?_cons_succ] at k0 k1
      go_upto_region 10 with fail
      refine wp_region_held_drew (S := (fun w' => w'.cell? ⟨w.heap.size, 0, none⟩ = some (.slice (some ⟨b, off, none⟩) h.objs.length c) ∧ w'.cell? ⟨w.heap.size, 1, none⟩ = some (.int .i64 h.cap) ∧ w'.cell? ⟨w.heap.size, 2, none⟩ = some (.int .i64 h.last) ∧ w'.cell? ⟨w.heap.size + 1, 0, none⟩ = some (.int .i64 k) ∧ w'.cell? ⟨w.heap.size + 1, 1, none⟩ = some (.int .i64 x) ∧ w'.cell? ⟨b, off + i * 6 + 1, none⟩ = some (.int .i64 0) ∧ Below w13.heap.size w13 w')) (by kernel_rfl) ?_ (fun hH0 => ?_)
      · exact ⟨cell_later (Below.refl w13.heap.size w13).drew x0, cell_later (Below.refl w13.heap.size w13).drew x1, cell_later (Below.refl w13.heap.size w13).drew x2, cell_later (Below.refl w13.heap.size w13).drew k0, cell_later (Below.refl w13.heap.size w13).drew k1, cell_later (Below.refl w13.heap.size w13).drew z1, (Below.refl _ _).drew⟩
      refine wpAnyH_take (i := 0) (oi := { dst := some 107, op := Go.Op.move (Go.Operand.tmp 16), type := 30, pos := "law.go:140", after := #[], guard := none }) (v := ?vv65) rfl (by kernel_rfl) (by kernel_rfl) (by kernel_rfl) (fun _ _ _ h => h) (Or.inl ⟨by rfl, ?hy65⟩) (by assumption) ?rr65
      case hy65 => intro w hSw; (try dsimp only at hSw); go_simp; all_goals with_reducible rfl
      try simp only [Act.put, List.setIfInBounds_toArray, List.set_cons_zero, List.set_cons_succ]
      refine wpAnyH_take (i := 1) (oi := { dst := some 108, op := Go.Op.binOp Go.BinOp.neq 30 (Go.Operand.tmp 107) (Go.Operand.const (Go.Value.int Go.IntKind.i64 0)) 30, type := 4, pos := "law.go:140", after := #[{ on := 0, ground := Go.Ground.data }], guard := none }) (v := ?vv66) rfl (by kernel_rfl) (by kernel_rfl) (by kernel_rfl) (fun _ _ _ h => h) (Or.inl ⟨by rfl, ?hy66⟩) (by assumption) ?rr66
      case hy66 => intro w hSw; (try dsimp only at hSw); go_simp; all_goals with_reducible rfl
      try simp only [Act.put, List.setIfInBounds_toArray, List.set_cons_zero, List.set_cons_succ]
      refine wpAnyH_take (i := 2) (oi := { dst := some 109, op := Go.Op.move (Go.Operand.tmp 108), type := 4, pos := "law.go:140", after := #[{ on := 1, ground := Go.Ground.data }], guard := none }) (v := ?vv67) rfl (by kernel_rfl) (by kernel_rfl) (by kernel_rfl) (fun _ _ _ h => h) (Or.inl ⟨by rfl, ?hy67⟩) (by assumption) ?rr67
      case hy67 => intro w hSw; (try dsimp only at hSw); go_simp; all_goals with_reducible rfl
      try simp only [Act.put, List.setIfInBounds_toArray, List.set_cons_zero, List.set_cons_succ]
      refine wpAnyH_take (i := 3) (oi := { dst := some 110, op := Go.Op.load 24 (Go.Operand.tmp 3), type := 24, pos := "law.go:140", after := #[{ on := 2, ground := Go.Ground.guard }], guard := some (2, false) }) (v := ?vv68) rfl (by kernel_rfl) (by kernel_rfl) (by kernel_rfl) (fun _ _ _ h => h) (Or.inl ⟨by rfl, ?hy68⟩) (by assumption) ?rr68
      case hy68 => intro w hSw; (try dsimp only at hSw); go_simp; all_goals with_reducible rfl
      try simp only [Act.put, List.setIfInBounds_toArray, List.set_cons_zero, List.set_cons_succ]
      refine wpAnyH_take (i := 4) (oi := { dst := some 111, op := Go.Op.move (Go.Operand.tmp 1), type := 3, pos := "law.go:140", after := #[{ on := 2, ground := Go.Ground.guard }], guard := some (2, false) }) (v := ?vv69) rfl (by kernel_rfl) (by kernel_rfl) (by kernel_rfl) (fun _ _ _ h => h) (Or.inl ⟨by rfl, ?hy69⟩) (by assumption) ?rr69
      case hy69 => intro w hSw; (try dsimp only at hSw); go_simp; all_goals with_reducible rfl
      try simp only [Act.put, List.setIfInBounds_toArray, List.set_cons_zero, List.set_cons_succ]
      refine wpAnyH_ready (rs := [5]) (by kernel_rfl) (by simp) ?_
      refine AllReadyH.cons (i := 5) (o := { dst := some 112, op := Go.Op.call { callee := Go.Callee.value (Go.Operand.func 22), args := #[Go.Operand.tmp 110, Go.Operand.tmp 111], argTypes := #[24, 3] }, type := 3, pos := "law.go:140", after := #[{ on := 3, ground := Go.Ground.data }, { on := 4, ground := Go.Ground.data }, { on := 2, ground := Go.Ground.chain }, { on := 2, ground := Go.Ground.guard }], guard := some (2, false) }) rfl (fun K hK => ?_) AllReadyH.nil
      go_simp
      go_at_call 22
      refine (rref_any h s (some ⟨b, off, none⟩) c _).mono ?_
      rintro e u1 ⟨rfl, hb⟩
      rw [hri]
      refine hK.out _ _ ?_ (fun hH1 => ?_)
      · exact ⟨cell_later hb hH0.1, cell_later hb hH0.2.1, cell_later hb hH0.2.2.1, cell_later hb hH0.2.2.2.1, cell_later hb hH0.2.2.2.2.1, cell_later hb hH0.2.2.2.2.2.1, then_w hH0.2.2.2.2.2.2 hb⟩
      clear hK K
      try simp only [Act.put, List.setIfInBounds_toArray, List.set_cons_zero, List.set_cons_succ]
      clear hb
      refine wpAnyH_take (i := 6) (oi := { dst := some 113, op := Go.Op.binOp Go.BinOp.lss 3 (Go.Operand.tmp 112) (Go.Operand.const (Go.Value.int Go.IntKind.i64 0)) 3, type := 4, pos := "law.go:140", after := #[{ on := 5, ground := Go.Ground.data }, { on := 2, ground := Go.Ground.guard }], guard := some (2, false) }) (v := ?vv70) rfl (by kernel_rfl) (by kernel_rfl) (by kernel_rfl) (fun _ _ _ h => h) (Or.inl ⟨by rfl, ?hy70⟩) (by assumption) ?rr70
      case hy70 => intro w hSw; (try dsimp only at hSw); go_simp; all_goals with_reducible rfl
      try simp only [Act.put, List.setIfInBounds_toArray, List.set_cons_zero, List.set_cons_succ]
      refine wpAnyH_take (i := 7) (oi := { dst := some 114, op := Go.Op.pick (Go.Operand.tmp 109) (Go.Operand.const (Go.Value.bool true)) (Go.Operand.tmp 113), type := 4, pos := "law.go:140", after := #[{ on := 2, ground := Go.Ground.data }, { on := 6, ground := Go.Ground.data }], guard := none }) (v := ?vv71) rfl (by kernel_rfl) (by kernel_rfl) (by kernel_rfl) (fun _ _ _ h => h) (Or.inl ⟨by rfl, ?hy71⟩) (by assumption) ?rr71
      case hy71 => intro w hSw; (try dsimp only at hSw); go_simp; all_goals with_reducible rfl
      try simp only [Act.put, List.setIfInBounds_toArray, List.set_cons_zero, List.set_cons_succ]
      refine wpAnyH_take (i := 8) (oi := { dst := some 115, op := Go.Op.move (Go.Operand.tmp 114), type := 4, pos := "law.go:140", after := #[{ on := 7, ground := Go.Ground.data }, { on := 5, ground := Go.Ground.chain }], guard := none }) (v := ?vv72) rfl (by kernel_rfl) (by kernel_rfl) (by kernel_rfl) (fun _ _ _ h => h) (Or.inl ⟨by rfl, ?hy72⟩) (by assumption) ?rr72
      case hy72 => intro w hSw; (try dsimp only at hSw); go_simp; all_goals with_reducible rfl
      try simp only [Act.put, List.setIfInBounds_toArray, List.set_cons_zero, List.set_cons_succ]
      refine wpAnyH_take (i := 9) (oi := { dst := some 116, op := Go.Op.fieldAddr 24 (Go.Operand.tmp 3) 0, type := 0, pos := "law.go:140", after := #[{ on := 8, ground := Go.Ground.guard }], guard := some (8, false) }) (v := ?vv73) rfl (by kernel_rfl) (by kernel_rfl) (by kernel_rfl) (fun _ _ _ h => h) (Or.inl ⟨by rfl, ?hy73⟩) (by assumption) ?rr73
      case hy73 => intro w hSw; (try dsimp only at hSw); go_simp; all_goals with_reducible rfl
      try simp only [Act.put, List.setIfInBounds_toArray, List.set_cons_zero, List.set_cons_succ]
      refine wpAnyH_take (i := 10) (oi := { dst := some 117, op := Go.Op.load 22 (Go.Operand.tmp 116), type := 22, pos := "law.go:140", after := #[{ on := 9, ground := Go.Ground.data }, { on := 8, ground := Go.Ground.guard }], guard := some (8, false) }) (v := ?vv74) rfl (by kernel_rfl) (by kernel_rfl) (by kernel_rfl) (fun _ _ _ h => h) (Or.inl ⟨by rfl, ?hy74⟩) (by assumption) ?rr74
      case hy74 => intro w hSw; (try dsimp only at hSw); go_simp; all_goals with_reducible rfl
      try simp only [Act.put, List.setIfInBounds_toArray, List.set_cons_zero, List.set_cons_succ]
      refine wpAnyH_take (i := 11) (oi := { dst := some 118, op := Go.Op.load 24 (Go.Operand.tmp 3), type := 24, pos := "law.go:140", after := #[{ on := 8, ground := Go.Ground.guard }], guard := some (8, false) }) (v := ?vv75) rfl (by kernel_rfl) (by kernel_rfl) (by kernel_rfl) (fun _ _ _ h => h) (Or.inl ⟨by rfl, ?hy75⟩) (by assumption) ?rr75
      case hy75 => intro w hSw; (try dsimp only at hSw); go_simp; all_goals with_reducible rfl
      try simp only [Act.put, List.setIfInBounds_toArray, List.set_cons_zero, List.set_cons_succ]
      refine wpAnyH_take (i := 12) (oi := { dst := some 119, op := Go.Op.move (Go.Operand.tmp 1), type := 3, pos := "law.go:140", after := #[{ on := 8, ground := Go.Ground.guard }], guard := some (8, false) }) (v := ?vv76) rfl (by kernel_rfl) (by kernel_rfl) (by kernel_rfl) (fun _ _ _ h => h) (Or.inl ⟨by rfl, ?hy76⟩) (by assumption) ?rr76
      case hy76 => intro w hSw; (try dsimp only at hSw); go_simp; all_goals with_reducible rfl
      try simp only [Act.put, List.setIfInBounds_toArray, List.set_cons_zero, List.set_cons_succ]
      refine wpAnyH_ready (rs := [13]) (by kernel_rfl) (by simp) ?_
      refine AllReadyH.cons (i := 13) (o := { dst := some 120, op := Go.Op.call { callee := Go.Callee.value (Go.Operand.func 22), args := #[Go.Operand.tmp 118, Go.Operand.tmp 119], argTypes := #[24, 3] }, type := 3, pos := "law.go:140", after := #[{ on := 11, ground := Go.Ground.data }, { on := 12, ground := Go.Ground.data }, { on := 8, ground := Go.Ground.chain }, { on := 8, ground := Go.Ground.guard }], guard := some (8, false) }) rfl (fun K hK => ?_) AllReadyH.nil
      go_simp
      go_at_call 22
      refine (rref_any h s (some ⟨b, off, none⟩) c _).mono ?_
      rintro e u2 ⟨rfl, hb⟩
      rw [hri]
      refine hK.out _ _ ?_ (fun hH2 => ?_)
      · exact ⟨cell_later hb hH1.1, cell_later hb hH1.2.1, cell_later hb hH1.2.2.1, cell_later hb hH1.2.2.2.1, cell_later hb hH1.2.2.2.2.1, cell_later hb hH1.2.2.2.2.2.1, then_w hH1.2.2.2.2.2.2 hb⟩
      clear hK K
      try simp only [Act.put, List.setIfInBounds_toArray, List.set_cons_zero, List.set_cons_succ]
      clear hb
      refine wpAnyH_take (i := 14) (oi := { dst := some 121, op := Go.Op.indexAddr 22 (Go.Operand.tmp 117) (Go.Operand.tmp 120), type := 0, pos := "law.go:140", after := #[{ on := 10, ground := Go.Ground.data }, { on := 13, ground := Go.Ground.data }, { on := 8, ground := Go.Ground.guard }], guard := some (8, false) }) (v := ?vv77) rfl (by kernel_rfl) (by kernel_rfl) (by kernel_rfl) (fun _ _ _ h => h) (Or.inl ⟨by rfl, ?hy77⟩) (by assumption) ?rr77
      case hy77 => intro w hSw; (try dsimp only at hSw); go_simp; all_goals with_reducible rfl
      try simp only [Act.put, List.setIfInBounds_toArray, List.set_cons_zero, List.set_cons_succ]
      refine wpAnyH_take (i := 15) (oi := { dst := some 122, op := Go.Op.fieldAddr 41 (Go.Operand.tmp 121) 1, type := 0, pos := "law.go:140", after := #[{ on := 14, ground := Go.Ground.data }, { on := 8, ground := Go.Ground.guard }], guard := some (8, false) }) (v := ?vv78) rfl (by kernel_rfl) (by kernel_rfl) (by kernel_rfl) (fun _ _ _ h => h) (Or.inl ⟨by rfl, ?hy78⟩) (by assumption) ?rr78
      case hy78 => intro w hSw; (try dsimp only at hSw); go_simp; all_goals with_reducible rfl
      try simp only [Act.put, List.setIfInBounds_toArray, List.set_cons_zero, List.set_cons_succ]
      refine wpAnyH_take (i := 16) (oi := { dst := some 123, op := Go.Op.load 3 (Go.Operand.tmp 122), type := 3, pos := "law.go:140", after := #[{ on := 15, ground := Go.Ground.data }, { on := 8, ground := Go.Ground.guard }], guard := some (8, false) }) (v := ?vv79) rfl (by kernel_rfl) (by kernel_rfl) (by kernel_rfl) (fun _ _ _ h => h) (Or.inl ⟨by rfl, ?hy79⟩) (by assumption) ?rr79
      case hy79 => intro w hSw; (try dsimp only at hSw); go_simp; all_goals with_reducible rfl
      try simp only [Act.put, List.setIfInBounds_toArray, List.set_cons_zero, List.set_cons_succ]
      refine wpAnyH_take (i := 17) (oi := { dst := some 124, op := Go.Op.binOp Go.BinOp.neq 3 (Go.Operand.tmp 123) (Go.Operand.const (Go.Value.int Go.IntKind.i64 0)) 3, type := 4, pos := "law.go:140", after := #[{ on := 16, ground := Go.Ground.data }, { on := 8, ground := Go.Ground.guard }], guard := some (8, false) }) (v := ?vv80) rfl (by kernel_rfl) (by kernel_rfl) (by kernel_rfl) (fun _ _ _ h => h) (Or.inl ⟨by rfl, ?hy80⟩) (by assumption) ?rr80
      case hy80 => intro w hSw; (try dsimp only at hSw); go_simp; all_goals with_reducible rfl
      try simp only [Act.put, List.setIfInBounds_toArray, List.set_cons_zero, List.set_cons_succ]
      refine wpAnyH_take (i := 18) (oi := { dst := some 125, op := Go.Op.pick (Go.Operand.tmp 115) (Go.Operand.const (Go.Value.bool true)) (Go.Operand.tmp 124), type := 4, pos := "law.go:140", after := #[{ on := 8, ground := Go.Ground.data }, { on := 17, ground := Go.Ground.data }], guard := none }) (v := ?vv81) rfl (by kernel_rfl) (by kernel_rfl) (by kernel_rfl) (fun _ _ _ h => h) (Or.inl ⟨by rfl, ?hy81⟩) (by assumption) ?rr81
      case hy81 => intro w hSw; (try dsimp only at hSw); go_simp; all_goals with_reducible rfl
      try simp only [Act.put, List.setIfInBounds_toArray, List.set_cons_zero, List.set_cons_succ]
      refine wpAnyH_take (i := 19) (oi := { dst := some 126, op := Go.Op.move (Go.Operand.tmp 125), type := 4, pos := "law.go:140", after := #[{ on := 18, ground := Go.Ground.data }, { on := 13, ground := Go.Ground.chain }], guard := none }) (v := ?vv82) rfl (by kernel_rfl) (by kernel_rfl) (by kernel_rfl) (fun _ _ _ h => h) (Or.inl ⟨by rfl, ?hy82⟩) (by assumption) ?rr82
      case hy82 => intro w hSw; (try dsimp only at hSw); go_simp; all_goals with_reducible rfl
      try simp only [Act.put, List.setIfInBounds_toArray, List.set_cons_zero, List.set_cons_succ]
      refine wpAnyH_take (i := 20) (oi := { dst := some 127, op := Go.Op.indexAddr 39 (Go.Operand.tmp 5) (Go.Operand.const (Go.Value.int Go.IntKind.i64 0)), type := 0, pos := "law.go:140", after := #[{ on := 19, ground := Go.Ground.guard }], guard := some (19, false) }) (v := ?vv83) rfl (by kernel_rfl) (by kernel_rfl) (by kernel_rfl) (fun _ _ _ h => h) (Or.inl ⟨by rfl, ?hy83⟩) (by assumption) ?rr83
      case hy83 => intro w hSw; (try dsimp only at hSw); go_simp; all_goals with_reducible rfl
      try simp only [Act.put, List.setIfInBounds_toArray, List.set_cons_zero, List.set_cons_succ]
      refine wpAnyH_take (i := 21) (oi := { dst := some 128, op := Go.Op.load 3 (Go.Operand.tmp 127), type := 3, pos := "law.go:140", after := #[{ on := 20, ground := Go.Ground.data }, { on := 19, ground := Go.Ground.guard }], guard := some (19, false) }) (v := ?vv84) rfl (by kernel_rfl) (by kernel_rfl) (by kernel_rfl) (fun _ _ _ h => h) (Or.inl ⟨by rfl, ?hy84⟩) (by assumption) ?rr84
      case hy84 => intro w hSw; (try dsimp only at hSw); go_simp; all_goals with_reducible rfl
      try simp only [Act.put, List.setIfInBounds_toArray, List.set_cons_zero, List.set_cons_succ]
      refine wpAnyH_take (i := 22) (oi := { dst := some 129, op := Go.Op.binOp Go.BinOp.lss 3 (Go.Operand.tmp 128) (Go.Operand.const (Go.Value.int Go.IntKind.i64 1)) 3, type := 4, pos := "law.go:140", after := #[{ on := 21, ground := Go.Ground.data }, { on := 19, ground := Go.Ground.guard }], guard := some (19, false) }) (v := ?vv85) rfl (by kernel_rfl) (by kernel_rfl) (by kernel_rfl) (fun _ _ _ h => h) (Or.inl ⟨by rfl, ?hy85⟩) (by assumption) ?rr85
      case hy85 => intro w hSw; (try dsimp only at hSw); go_simp; all_goals with_reducible rfl
      try simp only [Act.put, List.setIfInBounds_toArray, List.set_cons_zero, List.set_cons_succ]
      refine wpAnyH_take (i := 23) (oi := { dst := some 130, op := Go.Op.pick (Go.Operand.tmp 126) (Go.Operand.const (Go.Value.bool true)) (Go.Operand.tmp 129), type := 4, pos := "law.go:140", after := #[{ on := 19, ground := Go.Ground.data }, { on := 22, ground := Go.Ground.data }], guard := none }) (v := ?vv86) rfl (by kernel_rfl) (by kernel_rfl) (by kernel_rfl) (fun _ _ _ h => h) (Or.inl ⟨by rfl, ?hy86⟩) (by assumption) ?rr86
      case hy86 => intro w hSw; (try dsimp only at hSw); go_simp; all_goals with_reducible rfl
      try simp only [Act.put, List.setIfInBounds_toArray, List.set_cons_zero, List.set_cons_succ]
      refine wpAnyH_take (i := 24) (oi := { dst := some 131, op := Go.Op.move (Go.Operand.tmp 130), type := 4, pos := "law.go:140", after := #[{ on := 23, ground := Go.Ground.data }, { on := 19, ground := Go.Ground.chain }], guard := none }) (v := ?vv87) rfl (by kernel_rfl) (by kernel_rfl) (by kernel_rfl) (fun _ _ _ h => h) (Or.inl ⟨by rfl, ?hy87⟩) (by assumption) ?rr87
      case hy87 => intro w hSw; (try dsimp only at hSw); go_simp; all_goals with_reducible rfl
      try simp only [Act.put, List.setIfInBounds_toArray, List.set_cons_zero, List.set_cons_succ]
      refine wpAnyH_take (i := 25) (oi := { dst := some 132, op := Go.Op.indexAddr 39 (Go.Operand.tmp 5) (Go.Operand.const (Go.Value.int Go.IntKind.i64 0)), type := 0, pos := "law.go:140", after := #[{ on := 24, ground := Go.Ground.guard }], guard := some (24, false) }) (v := undef) rfl (by kernel_rfl) (by kernel_rfl) (by kernel_rfl) (fun _ _ _ h => h) (Or.inr ⟨by rfl, rfl⟩) (by assumption) ?_
      try simp only [Act.put, List.setIfInBounds_toArray, List.set_cons_zero, List.set_cons_succ]
      refine wpAnyH_take (i := 26) (oi := { dst := some 133, op := Go.Op.load 3 (Go.Operand.tmp 132), type := 3, pos := "law.go:140", after := #[{ on := 25, ground := Go.Ground.data }, { on := 24, ground := Go.Ground.guard }], guard := some (24, false) }) (v := undef) rfl (by kernel_rfl) (by kernel_rfl) (by kernel_rfl) (fun _ _ _ h => h) (Or.inr ⟨by rfl, rfl⟩) (by assumption) ?_
      try simp only [Act.put, List.setIfInBounds_toArray, List.set_cons_zero, List.set_cons_succ]
      refine wpAnyH_take (i := 27) (oi := { dst := some 134, op := Go.Op.binOp Go.BinOp.mul 3 (Go.Operand.const (Go.Value.int Go.IntKind.i64 2)) (Go.Operand.tmp 133) 3, type := 3, pos := "law.go:140", after := #[{ on := 26, ground := Go.Ground.data }, { on := 24, ground := Go.Ground.guard }], guard := some (24, false) }) (v := undef) rfl (by kernel_rfl) (by kernel_rfl) (by kernel_rfl) (fun _ _ _ h => h) (Or.inr ⟨by rfl, rfl⟩) (by assumption) ?_
      try simp only [Act.put, List.setIfInBounds_toArray, List.set_cons_zero, List.set_cons_succ]
      refine wpAnyH_take (i := 28) (oi := { dst := some 135, op := Go.Op.binOp Go.BinOp.add 3 (Go.Operand.tmp 134) (Go.Operand.const (Go.Value.int Go.IntKind.i64 1)) 3, type := 3, pos := "law.go:140", after := #[{ on := 27, ground := Go.Ground.data }, { on := 24, ground := Go.Ground.guard }], guard := some (24, false) }) (v := undef) rfl (by kernel_rfl) (by kernel_rfl) (by kernel_rfl) (fun _ _ _ h => h) (Or.inr ⟨by rfl, rfl⟩) (by assumption) ?_
      try simp only [Act.put, List.setIfInBounds_toArray, List.set_cons_zero, List.set_cons_succ]
      refine wpAnyH_take (i := 29) (oi := { dst := some 136, op := Go.Op.move (Go.Operand.tmp 15), type := 3, pos := "law.go:140", after := #[{ on := 24, ground := Go.Ground.guard }], guard := some (24, false) }) (v := undef) rfl (by kernel_rfl) (by kernel_rfl) (by kernel_rfl) (fun _ _ _ h => h) (Or.inr ⟨by rfl, rfl⟩) (by assumption) ?_
      try simp only [Act.put, List.setIfInBounds_toArray, List.set_cons_zero, List.set_cons_succ]
      refine wpAnyH_take (i := 30) (oi := { dst := some 137, op := Go.Op.binOp Go.BinOp.gtr 3 (Go.Operand.tmp 135) (Go.Operand.tmp 136) 3, type := 4, pos := "law.go:140", after := #[{ on := 28, ground := Go.Ground.data }, { on := 29, ground := Go.Ground.data }, { on := 24, ground := Go.Ground.guard }], guard := some (24, false) }) (v := undef) rfl (by kernel_rfl) (by kernel_rfl) (by kernel_rfl) (fun _ _ _ h => h) (Or.inr ⟨by rfl, rfl⟩) (by assumption) ?_
      try simp only [Act.put, List.setIfInBounds_toArray, List.set_cons_zero, List.set_cons_succ]
      refine wpAnyH_take (i := 31) (oi := { dst := some 138, op := Go.Op.pick (Go.Operand.tmp 131) (Go.Operand.const (Go.Value.bool true)) (Go.Operand.tmp 137), type := 4, pos := "law.go:140", after := #[{ on := 24, ground := Go.Ground.data }, { on := 30, ground := Go.Ground.data }], guard := none }) (v := ?vv94) rfl (by kernel_rfl) (by kernel_rfl) (by kernel_rfl) (fun _ _ _ h => h) (Or.inl ⟨by rfl, ?hy94⟩) (by assumption) ?rr94
      case hy94 => intro w hSw; (try dsimp only at hSw); go_simp; all_goals with_reducible rfl
      try simp only [Act.put, List.setIfInBounds_toArray, List.set_cons_zero, List.set_cons_succ]
      refine wpAnyH_take (i := 32) (oi := { dst := some 6, op := Go.Op.assign (Go.Operand.tmp 138), type := 4, pos := "law.go:140", after := #[{ on := 31, ground := Go.Ground.data }, { on := 24, ground := Go.Ground.chain }, { on := 0, ground := Go.Ground.phase }, { on := 1, ground := Go.Ground.phase }, { on := 2, ground := Go.Ground.phase }, { on := 3, ground := Go.Ground.phase }, { on := 4, ground := Go.Ground.phase }, { on := 5, ground := Go.Ground.phase }, { on := 6, ground := Go.Ground.phase }, { on := 7, ground := Go.Ground.phase }, { on := 8, ground := Go.Ground.phase }, { on := 9, ground := Go.Ground.phase }, { on := 10, ground := Go.Ground.phase }, { on := 11, ground := Go.Ground.phase }, { on := 12, ground := Go.Ground.phase }, { on := 13, ground := Go.Ground.phase }, { on := 14, ground := Go.Ground.phase }, { on := 15, ground := Go.Ground.phase }, { on := 16, ground := Go.Ground.phase }, { on := 17, ground := Go.Ground.phase }, { on := 18, ground := Go.Ground.phase }, { on := 19, ground := Go.Ground.phase }, { on := 20, ground := Go.Ground.phase }, { on := 21, ground := Go.Ground.phase }, { on := 22, ground := Go.Ground.phase }, { on := 23, ground := Go.Ground.phase }, { on := 24, ground := Go.Ground.phase }, { on := 25, ground := Go.Ground.phase }, { on := 26, ground := Go.Ground.phase }, { on := 27, ground := Go.Ground.phase }, { on := 28, ground := Go.Ground.phase }, { on := 29, ground := Go.Ground.phase }, { on := 30, ground := Go.Ground.phase }, { on := 31, ground := Go.Ground.phase }], guard := none }) (v := ?vv95) rfl (by kernel_rfl) (by kernel_rfl) (by kernel_rfl) (fun _ _ _ h => h) (Or.inl ⟨by rfl, ?hy95⟩) (by assumption) ?rr95
      case hy95 => intro w hSw; (try dsimp only at hSw); go_simp; all_goals with_reducible rfl
      try simp only [Act.put, List.setIfInBounds_toArray, List.set_cons_zero, List.set_cons_succ]
      refine wpAnyH_done (by kernel_rfl) ?_ _
      go_wp2_with fail
      go_ret
      exact ⟨rfl, then_w HB13.out (hH2.2.2.2.2.2.2)⟩
    have hk2 : decide (k < 1) = false := decide_eq_false hk1
    have hnk : 2 * n + 1 < 2 * k + 1 := by rcases D4.out with g | g | g
                                           · exact absurd rfl g
                                           · exact absurd g hk1
                                           · omega
    obtain ⟨hwk, hwk2⟩ := HW.out
    have x0 := HX13.out.cell 0
    have x1 := HX13.out.cell 1
    have x2 := HX13.out.cell 2
    simp only [List.getElem?_toArray, List.getElem?_cons_zero, List.getElem?_cons_succ] at x0 x1 x2
    have k0 := HK13.out.cell 0
    have k1 := HK13.out.cell 1
    simp only [List.getElem?_toArray, List.getElem?_cons_zero, List.getElem?_cons_succ] at k0 k1
    go_upto_region 10 with fail
    refine wp_region_held_drew (S := (fun w' => w'.cell? ⟨w.heap.size, 0, none⟩ = some (.slice (some ⟨b, off, none⟩) h.objs.length c) ∧ w'.cell? ⟨w.heap.size, 1, none⟩ = some (.int .i64 h.cap) ∧ w'.cell? ⟨w.heap.size, 2, none⟩ = some (.int .i64 h.last) ∧ w'.cell? ⟨w.heap.size + 1, 0, none⟩ = some (.int .i64 k) ∧ w'.cell? ⟨w.heap.size + 1, 1, none⟩ = some (.int .i64 x) ∧ w'.cell? ⟨b, off + i * 6 + 1, none⟩ = some (.int .i64 0) ∧ Below w13.heap.size w13 w')) (by kernel_rfl) ?_ (fun hH0 => ?_)
    · exact ⟨cell_later (Below.refl w13.heap.size w13).drew x0, cell_later (Below.refl w13.heap.size w13).drew x1, cell_later (Below.refl w13.heap.size w13).drew x2, cell_later (Below.refl w13.heap.size w13).drew k0, cell_later (Below.refl w13.heap.size w13).drew k1, cell_later (Below.refl w13.heap.size w13).drew z1, (Below.refl _ _).drew⟩
    refine wpAnyH_take (i := 0) (oi := { dst := some 107, op := Go.Op.move (Go.Operand.tmp 16), type := 30, pos := "law.go:140", after := #[], guard := none }) (v := ?vv96) rfl (by kernel_rfl) (by kernel_rfl) (by kernel_rfl) (fun _ _ _ h => h) (Or.inl ⟨by rfl, ?hy96⟩) (by assumption) ?rr96
    case hy96 => intro w hSw; (try dsimp only at hSw); go_simp; all_goals with_reducible rfl
    try simp only [Act.put, List.setIfInBounds_toArray, List.set_cons_zero, List.set_cons_succ]
    refine wpAnyH_take (i := 1) (oi := { dst := some 108, op := Go.Op.binOp Go.BinOp.neq 30 (Go.Operand.tmp 107) (Go.Operand.const (Go.Value.int Go.IntKind.i64 0)) 30, type := 4, pos := "law.go:140", after := #[{ on := 0, ground := Go.Ground.data }], guard := none }) (v := ?vv97) rfl (by kernel_rfl) (by kernel_rfl) (by kernel_rfl) (fun _ _ _ h => h) (Or.inl ⟨by rfl, ?hy97⟩) (by assumption) ?rr97
    case hy97 => intro w hSw; (try dsimp only at hSw); go_simp; all_goals with_reducible rfl
    try simp only [Act.put, List.setIfInBounds_toArray, List.set_cons_zero, List.set_cons_succ]
    refine wpAnyH_take (i := 2) (oi := { dst := some 109, op := Go.Op.move (Go.Operand.tmp 108), type := 4, pos := "law.go:140", after := #[{ on := 1, ground := Go.Ground.data }], guard := none }) (v := ?vv98) rfl (by kernel_rfl) (by kernel_rfl) (by kernel_rfl) (fun _ _ _ h => h) (Or.inl ⟨by rfl, ?hy98⟩) (by assumption) ?rr98
    case hy98 => intro w hSw; (try dsimp only at hSw); go_simp; all_goals with_reducible rfl
    try simp only [Act.put, List.setIfInBounds_toArray, List.set_cons_zero, List.set_cons_succ]
    refine wpAnyH_take (i := 3) (oi := { dst := some 110, op := Go.Op.load 24 (Go.Operand.tmp 3), type := 24, pos := "law.go:140", after := #[{ on := 2, ground := Go.Ground.guard }], guard := some (2, false) }) (v := ?vv99) rfl (by kernel_rfl) (by kernel_rfl) (by kernel_rfl) (fun _ _ _ h => h) (Or.inl ⟨by rfl, ?hy99⟩) (by assumption) ?rr99
    case hy99 => intro w hSw; (try dsimp only at hSw); go_simp; all_goals with_reducible rfl
    try simp only [Act.put, List.setIfInBounds_toArray, List.set_cons_zero, List.set_cons_succ]
    refine wpAnyH_take (i := 4) (oi := { dst := some 111, op := Go.Op.move (Go.Operand.tmp 1), type := 3, pos := "law.go:140", after := #[{ on := 2, ground := Go.Ground.guard }], guard := some (2, false) }) (v := ?vv100) rfl (by kernel_rfl) (by kernel_rfl) (by kernel_rfl) (fun _ _ _ h => h) (Or.inl ⟨by rfl, ?hy100⟩) (by assumption) ?rr100
    case hy100 => intro w hSw; (try dsimp only at hSw); go_simp; all_goals with_reducible rfl
    try simp only [Act.put, List.setIfInBounds_toArray, List.set_cons_zero, List.set_cons_succ]
    refine wpAnyH_ready (rs := [5]) (by kernel_rfl) (by simp) ?_
    refine AllReadyH.cons (i := 5) (o := { dst := some 112, op := Go.Op.call { callee := Go.Callee.value (Go.Operand.func 22), args := #[Go.Operand.tmp 110, Go.Operand.tmp 111], argTypes := #[24, 3] }, type := 3, pos := "law.go:140", after := #[{ on := 3, ground := Go.Ground.data }, { on := 4, ground := Go.Ground.data }, { on := 2, ground := Go.Ground.chain }, { on := 2, ground := Go.Ground.guard }], guard := some (2, false) }) rfl (fun K hK => ?_) AllReadyH.nil
    go_simp
    go_at_call 22
    refine (rref_any h s (some ⟨b, off, none⟩) c _).mono ?_
    rintro e u1 ⟨rfl, hb⟩
    rw [hri]
    refine hK.out _ _ ?_ (fun hH1 => ?_)
    · exact ⟨cell_later hb hH0.1, cell_later hb hH0.2.1, cell_later hb hH0.2.2.1, cell_later hb hH0.2.2.2.1, cell_later hb hH0.2.2.2.2.1, cell_later hb hH0.2.2.2.2.2.1, then_w hH0.2.2.2.2.2.2 hb⟩
    clear hK K
    try simp only [Act.put, List.setIfInBounds_toArray, List.set_cons_zero, List.set_cons_succ]
    clear hb
    refine wpAnyH_take (i := 6) (oi := { dst := some 113, op := Go.Op.binOp Go.BinOp.lss 3 (Go.Operand.tmp 112) (Go.Operand.const (Go.Value.int Go.IntKind.i64 0)) 3, type := 4, pos := "law.go:140", after := #[{ on := 5, ground := Go.Ground.data }, { on := 2, ground := Go.Ground.guard }], guard := some (2, false) }) (v := ?vv101) rfl (by kernel_rfl) (by kernel_rfl) (by kernel_rfl) (fun _ _ _ h => h) (Or.inl ⟨by rfl, ?hy101⟩) (by assumption) ?rr101
    case hy101 => intro w hSw; (try dsimp only at hSw); go_simp; all_goals with_reducible rfl
    try simp only [Act.put, List.setIfInBounds_toArray, List.set_cons_zero, List.set_cons_succ]
    refine wpAnyH_take (i := 7) (oi := { dst := some 114, op := Go.Op.pick (Go.Operand.tmp 109) (Go.Operand.const (Go.Value.bool true)) (Go.Operand.tmp 113), type := 4, pos := "law.go:140", after := #[{ on := 2, ground := Go.Ground.data }, { on := 6, ground := Go.Ground.data }], guard := none }) (v := ?vv102) rfl (by kernel_rfl) (by kernel_rfl) (by kernel_rfl) (fun _ _ _ h => h) (Or.inl ⟨by rfl, ?hy102⟩) (by assumption) ?rr102
    case hy102 => intro w hSw; (try dsimp only at hSw); go_simp; all_goals with_reducible rfl
    try simp only [Act.put, List.setIfInBounds_toArray, List.set_cons_zero, List.set_cons_succ]
    refine wpAnyH_take (i := 8) (oi := { dst := some 115, op := Go.Op.move (Go.Operand.tmp 114), type := 4, pos := "law.go:140", after := #[{ on := 7, ground := Go.Ground.data }, { on := 5, ground := Go.Ground.chain }], guard := none }) (v := ?vv103) rfl (by kernel_rfl) (by kernel_rfl) (by kernel_rfl) (fun _ _ _ h => h) (Or.inl ⟨by rfl, ?hy103⟩) (by assumption) ?rr103
    case hy103 => intro w hSw; (try dsimp only at hSw); go_simp; all_goals with_reducible rfl
    try simp only [Act.put, List.setIfInBounds_toArray, List.set_cons_zero, List.set_cons_succ]
    refine wpAnyH_take (i := 9) (oi := { dst := some 116, op := Go.Op.fieldAddr 24 (Go.Operand.tmp 3) 0, type := 0, pos := "law.go:140", after := #[{ on := 8, ground := Go.Ground.guard }], guard := some (8, false) }) (v := ?vv104) rfl (by kernel_rfl) (by kernel_rfl) (by kernel_rfl) (fun _ _ _ h => h) (Or.inl ⟨by rfl, ?hy104⟩) (by assumption) ?rr104
    case hy104 => intro w hSw; (try dsimp only at hSw); go_simp; all_goals with_reducible rfl
    try simp only [Act.put, List.setIfInBounds_toArray, List.set_cons_zero, List.set_cons_succ]
    refine wpAnyH_take (i := 10) (oi := { dst := some 117, op := Go.Op.load 22 (Go.Operand.tmp 116), type := 22, pos := "law.go:140", after := #[{ on := 9, ground := Go.Ground.data }, { on := 8, ground := Go.Ground.guard }], guard := some (8, false) }) (v := ?vv105) rfl (by kernel_rfl) (by kernel_rfl) (by kernel_rfl) (fun _ _ _ h => h) (Or.inl ⟨by rfl, ?hy105⟩) (by assumption) ?rr105
    case hy105 => intro w hSw; (try dsimp only at hSw); go_simp; all_goals with_reducible rfl
    try simp only [Act.put, List.setIfInBounds_toArray, List.set_cons_zero, List.set_cons_succ]
    refine wpAnyH_take (i := 11) (oi := { dst := some 118, op := Go.Op.load 24 (Go.Operand.tmp 3), type := 24, pos := "law.go:140", after := #[{ on := 8, ground := Go.Ground.guard }], guard := some (8, false) }) (v := ?vv106) rfl (by kernel_rfl) (by kernel_rfl) (by kernel_rfl) (fun _ _ _ h => h) (Or.inl ⟨by rfl, ?hy106⟩) (by assumption) ?rr106
    case hy106 => intro w hSw; (try dsimp only at hSw); go_simp; all_goals with_reducible rfl
    try simp only [Act.put, List.setIfInBounds_toArray, List.set_cons_zero, List.set_cons_succ]
    refine wpAnyH_take (i := 12) (oi := { dst := some 119, op := Go.Op.move (Go.Operand.tmp 1), type := 3, pos := "law.go:140", after := #[{ on := 8, ground := Go.Ground.guard }], guard := some (8, false) }) (v := ?vv107) rfl (by kernel_rfl) (by kernel_rfl) (by kernel_rfl) (fun _ _ _ h => h) (Or.inl ⟨by rfl, ?hy107⟩) (by assumption) ?rr107
    case hy107 => intro w hSw; (try dsimp only at hSw); go_simp; all_goals with_reducible rfl
    try simp only [Act.put, List.setIfInBounds_toArray, List.set_cons_zero, List.set_cons_succ]
    refine wpAnyH_ready (rs := [13]) (by kernel_rfl) (by simp) ?_
    refine AllReadyH.cons (i := 13) (o := { dst := some 120, op := Go.Op.call { callee := Go.Callee.value (Go.Operand.func 22), args := #[Go.Operand.tmp 118, Go.Operand.tmp 119], argTypes := #[24, 3] }, type := 3, pos := "law.go:140", after := #[{ on := 11, ground := Go.Ground.data }, { on := 12, ground := Go.Ground.data }, { on := 8, ground := Go.Ground.chain }, { on := 8, ground := Go.Ground.guard }], guard := some (8, false) }) rfl (fun K hK => ?_) AllReadyH.nil
    go_simp
    go_at_call 22
    refine (rref_any h s (some ⟨b, off, none⟩) c _).mono ?_
    rintro e u2 ⟨rfl, hb⟩
    rw [hri]
    refine hK.out _ _ ?_ (fun hH2 => ?_)
    · exact ⟨cell_later hb hH1.1, cell_later hb hH1.2.1, cell_later hb hH1.2.2.1, cell_later hb hH1.2.2.2.1, cell_later hb hH1.2.2.2.2.1, cell_later hb hH1.2.2.2.2.2.1, then_w hH1.2.2.2.2.2.2 hb⟩
    clear hK K
    try simp only [Act.put, List.setIfInBounds_toArray, List.set_cons_zero, List.set_cons_succ]
    clear hb
    refine wpAnyH_take (i := 14) (oi := { dst := some 121, op := Go.Op.indexAddr 22 (Go.Operand.tmp 117) (Go.Operand.tmp 120), type := 0, pos := "law.go:140", after := #[{ on := 10, ground := Go.Ground.data }, { on := 13, ground := Go.Ground.data }, { on := 8, ground := Go.Ground.guard }], guard := some (8, false) }) (v := ?vv108) rfl (by kernel_rfl) (by kernel_rfl) (by kernel_rfl) (fun _ _ _ h => h) (Or.inl ⟨by rfl, ?hy108⟩) (by assumption) ?rr108
    case hy108 => intro w hSw; (try dsimp only at hSw); go_simp; all_goals with_reducible rfl
    try simp only [Act.put, List.setIfInBounds_toArray, List.set_cons_zero, List.set_cons_succ]
    refine wpAnyH_take (i := 15) (oi := { dst := some 122, op := Go.Op.fieldAddr 41 (Go.Operand.tmp 121) 1, type := 0, pos := "law.go:140", after := #[{ on := 14, ground := Go.Ground.data }, { on := 8, ground := Go.Ground.guard }], guard := some (8, false) }) (v := ?vv109) rfl (by kernel_rfl) (by kernel_rfl) (by kernel_rfl) (fun _ _ _ h => h) (Or.inl ⟨by rfl, ?hy109⟩) (by assumption) ?rr109
    case hy109 => intro w hSw; (try dsimp only at hSw); go_simp; all_goals with_reducible rfl
    try simp only [Act.put, List.setIfInBounds_toArray, List.set_cons_zero, List.set_cons_succ]
    refine wpAnyH_take (i := 16) (oi := { dst := some 123, op := Go.Op.load 3 (Go.Operand.tmp 122), type := 3, pos := "law.go:140", after := #[{ on := 15, ground := Go.Ground.data }, { on := 8, ground := Go.Ground.guard }], guard := some (8, false) }) (v := ?vv110) rfl (by kernel_rfl) (by kernel_rfl) (by kernel_rfl) (fun _ _ _ h => h) (Or.inl ⟨by rfl, ?hy110⟩) (by assumption) ?rr110
    case hy110 => intro w hSw; (try dsimp only at hSw); go_simp; all_goals with_reducible rfl
    try simp only [Act.put, List.setIfInBounds_toArray, List.set_cons_zero, List.set_cons_succ]
    refine wpAnyH_take (i := 17) (oi := { dst := some 124, op := Go.Op.binOp Go.BinOp.neq 3 (Go.Operand.tmp 123) (Go.Operand.const (Go.Value.int Go.IntKind.i64 0)) 3, type := 4, pos := "law.go:140", after := #[{ on := 16, ground := Go.Ground.data }, { on := 8, ground := Go.Ground.guard }], guard := some (8, false) }) (v := ?vv111) rfl (by kernel_rfl) (by kernel_rfl) (by kernel_rfl) (fun _ _ _ h => h) (Or.inl ⟨by rfl, ?hy111⟩) (by assumption) ?rr111
    case hy111 => intro w hSw; (try dsimp only at hSw); go_simp; all_goals with_reducible rfl
    try simp only [Act.put, List.setIfInBounds_toArray, List.set_cons_zero, List.set_cons_succ]
    refine wpAnyH_take (i := 18) (oi := { dst := some 125, op := Go.Op.pick (Go.Operand.tmp 115) (Go.Operand.const (Go.Value.bool true)) (Go.Operand.tmp 124), type := 4, pos := "law.go:140", after := #[{ on := 8, ground := Go.Ground.data }, { on := 17, ground := Go.Ground.data }], guard := none }) (v := ?vv112) rfl (by kernel_rfl) (by kernel_rfl) (by kernel_rfl) (fun _ _ _ h => h) (Or.inl ⟨by rfl, ?hy112⟩) (by assumption) ?rr112
    case hy112 => intro w hSw; (try dsimp only at hSw); go_simp; all_goals with_reducible rfl
    try simp only [Act.put, List.setIfInBounds_toArray, List.set_cons_zero, List.set_cons_succ]
    refine wpAnyH_take (i := 19) (oi := { dst := some 126, op := Go.Op.move (Go.Operand.tmp 125), type := 4, pos := "law.go:140", after := #[{ on := 18, ground := Go.Ground.data }, { on := 13, ground := Go.Ground.chain }], guard := none }) (v := ?vv113) rfl (by kernel_rfl) (by kernel_rfl) (by kernel_rfl) (fun _ _ _ h => h) (Or.inl ⟨by rfl, ?hy113⟩) (by assumption) ?rr113
    case hy113 => intro w hSw; (try dsimp only at hSw); go_simp; all_goals with_reducible rfl
    try simp only [Act.put, List.setIfInBounds_toArray, List.set_cons_zero, List.set_cons_succ]
    refine wpAnyH_take (i := 20) (oi := { dst := some 127, op := Go.Op.indexAddr 39 (Go.Operand.tmp 5) (Go.Operand.const (Go.Value.int Go.IntKind.i64 0)), type := 0, pos := "law.go:140", after := #[{ on := 19, ground := Go.Ground.guard }], guard := some (19, false) }) (v := ?vv114) rfl (by kernel_rfl) (by kernel_rfl) (by kernel_rfl) (fun _ _ _ h => h) (Or.inl ⟨by rfl, ?hy114⟩) (by assumption) ?rr114
    case hy114 => intro w hSw; (try dsimp only at hSw); go_simp; all_goals with_reducible rfl
    try simp only [Act.put, List.setIfInBounds_toArray, List.set_cons_zero, List.set_cons_succ]
    refine wpAnyH_take (i := 21) (oi := { dst := some 128, op := Go.Op.load 3 (Go.Operand.tmp 127), type := 3, pos := "law.go:140", after := #[{ on := 20, ground := Go.Ground.data }, { on := 19, ground := Go.Ground.guard }], guard := some (19, false) }) (v := ?vv115) rfl (by kernel_rfl) (by kernel_rfl) (by kernel_rfl) (fun _ _ _ h => h) (Or.inl ⟨by rfl, ?hy115⟩) (by assumption) ?rr115
    case hy115 => intro w hSw; (try dsimp only at hSw); go_simp; all_goals with_reducible rfl
    try simp only [Act.put, List.setIfInBounds_toArray, List.set_cons_zero, List.set_cons_succ]
    refine wpAnyH_take (i := 22) (oi := { dst := some 129, op := Go.Op.binOp Go.BinOp.lss 3 (Go.Operand.tmp 128) (Go.Operand.const (Go.Value.int Go.IntKind.i64 1)) 3, type := 4, pos := "law.go:140", after := #[{ on := 21, ground := Go.Ground.data }, { on := 19, ground := Go.Ground.guard }], guard := some (19, false) }) (v := ?vv116) rfl (by kernel_rfl) (by kernel_rfl) (by kernel_rfl) (fun _ _ _ h => h) (Or.inl ⟨by rfl, ?hy116⟩) (by assumption) ?rr116
    case hy116 => intro w hSw; (try dsimp only at hSw); go_simp; all_goals with_reducible rfl
    try simp only [Act.put, List.setIfInBounds_toArray, List.set_cons_zero, List.set_cons_succ]
    refine wpAnyH_take (i := 23) (oi := { dst := some 130, op := Go.Op.pick (Go.Operand.tmp 126) (Go.Operand.const (Go.Value.bool true)) (Go.Operand.tmp 129), type := 4, pos := "law.go:140", after := #[{ on := 19, ground := Go.Ground.data }, { on := 22, ground := Go.Ground.data }], guard := none }) (v := ?vv117) rfl (by kernel_rfl) (by kernel_rfl) (by kernel_rfl) (fun _ _ _ h => h) (Or.inl ⟨by rfl, ?hy117⟩) (by assumption) ?rr117
    case hy117 => intro w hSw; (try dsimp only at hSw); go_simp; all_goals with_reducible rfl
    try simp only [Act.put, List.setIfInBounds_toArray, List.set_cons_zero, List.set_cons_succ]
    refine wpAnyH_take (i := 24) (oi := { dst := some 131, op := Go.Op.move (Go.Operand.tmp 130), type := 4, pos := "law.go:140", after := #[{ on := 23, ground := Go.Ground.data }, { on := 19, ground := Go.Ground.chain }], guard := none }) (v := ?vv118) rfl (by kernel_rfl) (by kernel_rfl) (by kernel_rfl) (fun _ _ _ h => h) (Or.inl ⟨by rfl, ?hy118⟩) (by assumption) ?rr118
    case hy118 => intro w hSw; (try dsimp only at hSw); go_simp; all_goals with_reducible rfl
    try simp only [Act.put, List.setIfInBounds_toArray, List.set_cons_zero, List.set_cons_succ]
    refine wpAnyH_take (i := 25) (oi := { dst := some 132, op := Go.Op.indexAddr 39 (Go.Operand.tmp 5) (Go.Operand.const (Go.Value.int Go.IntKind.i64 0)), type := 0, pos := "law.go:140", after := #[{ on := 24, ground := Go.Ground.guard }], guard := some (24, false) }) (v := ?vv119) rfl (by kernel_rfl) (by kernel_rfl) (by kernel_rfl) (fun _ _ _ h => h) (Or.inl ⟨by rfl, ?hy119⟩) (by assumption) ?rr119
    case hy119 => intro w hSw; (try dsimp only at hSw); go_simp; all_goals with_reducible rfl
    try simp only [Act.put, List.setIfInBounds_toArray, List.set_cons_zero, List.set_cons_succ]
    refine wpAnyH_take (i := 26) (oi := { dst := some 133, op := Go.Op.load 3 (Go.Operand.tmp 132), type := 3, pos := "law.go:140", after := #[{ on := 25, ground := Go.Ground.data }, { on := 24, ground := Go.Ground.guard }], guard := some (24, false) }) (v := ?vv120) rfl (by kernel_rfl) (by kernel_rfl) (by kernel_rfl) (fun _ _ _ h => h) (Or.inl ⟨by rfl, ?hy120⟩) (by assumption) ?rr120
    case hy120 => intro w hSw; (try dsimp only at hSw); go_simp; all_goals with_reducible rfl
    try simp only [Act.put, List.setIfInBounds_toArray, List.set_cons_zero, List.set_cons_succ]
    refine wpAnyH_take (i := 27) (oi := { dst := some 134, op := Go.Op.binOp Go.BinOp.mul 3 (Go.Operand.const (Go.Value.int Go.IntKind.i64 2)) (Go.Operand.tmp 133) 3, type := 3, pos := "law.go:140", after := #[{ on := 26, ground := Go.Ground.data }, { on := 24, ground := Go.Ground.guard }], guard := some (24, false) }) (v := ?vv121) rfl (by kernel_rfl) (by kernel_rfl) (by kernel_rfl) (fun _ _ _ h => h) (Or.inl ⟨by rfl, ?hy121⟩) (by assumption) ?rr121
    case hy121 => intro w hSw; (try dsimp only at hSw); go_simp; all_goals with_reducible rfl
    try simp only [Act.put, List.setIfInBounds_toArray, List.set_cons_zero, List.set_cons_succ]
    refine wpAnyH_take (i := 28) (oi := { dst := some 135, op := Go.Op.binOp Go.BinOp.add 3 (Go.Operand.tmp 134) (Go.Operand.const (Go.Value.int Go.IntKind.i64 1)) 3, type := 3, pos := "law.go:140", after := #[{ on := 27, ground := Go.Ground.data }, { on := 24, ground := Go.Ground.guard }], guard := some (24, false) }) (v := ?vv122) rfl (by kernel_rfl) (by kernel_rfl) (by kernel_rfl) (fun _ _ _ h => h) (Or.inl ⟨by rfl, ?hy122⟩) (by assumption) ?rr122
    case hy122 => intro w hSw; (try dsimp only at hSw); go_simp; all_goals with_reducible rfl
    try simp only [Act.put, List.setIfInBounds_toArray, List.set_cons_zero, List.set_cons_succ]
    refine wpAnyH_take (i := 29) (oi := { dst := some 136, op := Go.Op.move (Go.Operand.tmp 15), type := 3, pos := "law.go:140", after := #[{ on := 24, ground := Go.Ground.guard }], guard := some (24, false) }) (v := ?vv123) rfl (by kernel_rfl) (by kernel_rfl) (by kernel_rfl) (fun _ _ _ h => h) (Or.inl ⟨by rfl, ?hy123⟩) (by assumption) ?rr123
    case hy123 => intro w hSw; (try dsimp only at hSw); go_simp; all_goals with_reducible rfl
    try simp only [Act.put, List.setIfInBounds_toArray, List.set_cons_zero, List.set_cons_succ]
    refine wpAnyH_take (i := 30) (oi := { dst := some 137, op := Go.Op.binOp Go.BinOp.gtr 3 (Go.Operand.tmp 135) (Go.Operand.tmp 136) 3, type := 4, pos := "law.go:140", after := #[{ on := 28, ground := Go.Ground.data }, { on := 29, ground := Go.Ground.data }, { on := 24, ground := Go.Ground.guard }], guard := some (24, false) }) (v := ?vv124) rfl (by kernel_rfl) (by kernel_rfl) (by kernel_rfl) (fun _ _ _ h => h) (Or.inl ⟨by rfl, ?hy124⟩) (by assumption) ?rr124
    case hy124 => intro w hSw; (try dsimp only at hSw); go_simp; all_goals with_reducible rfl
    try simp only [Act.put, List.setIfInBounds_toArray, List.set_cons_zero, List.set_cons_succ]
    refine wpAnyH_take (i := 31) (oi := { dst := some 138, op := Go.Op.pick (Go.Operand.tmp 131) (Go.Operand.const (Go.Value.bool true)) (Go.Operand.tmp 137), type := 4, pos := "law.go:140", after := #[{ on := 24, ground := Go.Ground.data }, { on := 30, ground := Go.Ground.data }], guard := none }) (v := ?vv125) rfl (by kernel_rfl) (by kernel_rfl) (by kernel_rfl) (fun _ _ _ h => h) (Or.inl ⟨by rfl, ?hy125⟩) (by assumption) ?rr125
    case hy125 => intro w hSw; (try dsimp only at hSw); go_simp; all_goals with_reducible rfl
    try simp only [Act.put, List.setIfInBounds_toArray, List.set_cons_zero, List.set_cons_succ]
    refine wpAnyH_take (i := 32) (oi := { dst := some 6, op := Go.Op.assign (Go.Operand.tmp 138), type := 4, pos := "law.go:140", after := #[{ on := 31, ground := Go.Ground.data }, { on := 24, ground := Go.Ground.chain }, { on := 0, ground := Go.Ground.phase }, { on := 1, ground := Go.Ground.phase }, { on := 2, ground := Go.Ground.phase }, { on := 3, ground := Go.Ground.phase }, { on := 4, ground := Go.Ground.phase }, { on := 5, ground := Go.Ground.phase }, { on := 6, ground := Go.Ground.phase }, { on := 7, ground := Go.Ground.phase }, { on := 8, ground := Go.Ground.phase }, { on := 9, ground := Go.Ground.phase }, { on := 10, ground := Go.Ground.phase }, { on := 11, ground := Go.Ground.phase }, { on := 12, ground := Go.Ground.phase }, { on := 13, ground := Go.Ground.phase }, { on := 14, ground := Go.Ground.phase }, { on := 15, ground := Go.Ground.phase }, { on := 16, ground := Go.Ground.phase }, { on := 17, ground := Go.Ground.phase }, { on := 18, ground := Go.Ground.phase }, { on := 19, ground := Go.Ground.phase }, { on := 20, ground := Go.Ground.phase }, { on := 21, ground := Go.Ground.phase }, { on := 22, ground := Go.Ground.phase }, { on := 23, ground := Go.Ground.phase }, { on := 24, ground := Go.Ground.phase }, { on := 25, ground := Go.Ground.phase }, { on := 26, ground := Go.Ground.phase }, { on := 27, ground := Go.Ground.phase }, { on := 28, ground := Go.Ground.phase }, { on := 29, ground := Go.Ground.phase }, { on := 30, ground := Go.Ground.phase }, { on := 31, ground := Go.Ground.phase }], guard := none }) (v := ?vv126) rfl (by kernel_rfl) (by kernel_rfl) (by kernel_rfl) (fun _ _ _ h => h) (Or.inl ⟨by rfl, ?hy126⟩) (by assumption) ?rr126
    case hy126 => intro w hSw; (try dsimp only at hSw); go_simp; all_goals with_reducible rfl
    try simp only [Act.put, List.setIfInBounds_toArray, List.set_cons_zero, List.set_cons_succ]
    refine wpAnyH_done (by kernel_rfl) ?_ _
    go_wp2_with fail
    go_ret
    exact ⟨rfl, then_w HB13.out (hH2.2.2.2.2.2.2)⟩
  have D := hid (slt13 HM.out H12.out HA.out HC.out hk0 hk1 he)
  obtain ⟨g, hg⟩ : ∃ g, g = setH h s (k - 1) x := ⟨_, rfl⟩
  obtain ⟨old, hold⟩ : ∃ g, g = geV h s (k - 1) := ⟨_, rfl⟩
  obtain ⟨n, hn⟩ : ∃ n : Int, n = ((obAt h s).slots.length + (obAt h s).text.size : Int) := ⟨_, rfl⟩
  rw [← hg, ← hold, ← hn] at D
  clear hg hold hn he
  obtain ⟨at_, hat⟩ : ∃ y, y = 2 * k + 1 := ⟨_, rfl⟩
  have D1 := hid D.out.s1
  have D2 := hid D.out.s2
  have D3 := hid D.out.s3
  have D4 := hid D.out.s4
  have D5 := hid D.out.s5
  have hlo := D.out.lo
  have hhi2 : 2 * k + 1 ≤ 2 * n + 1 := by have := D.out.hi; omega
  have GF := hid D.out.fit
  have GW := hid (D.out.wd HWD.out)
  rw [← hat] at D1 D2 D4 D5 ⊢
  have HAT := hid hat
  have HLO := hid hlo
  have HHI := hid hhi2
  clear D hat hlo hhi2 hk0 hk1
  have x0 := HX5.out.cell 0
  have x1 := HX5.out.cell 1
  have x2 := HX5.out.cell 2
  simp only [List.getElem?_toArray, List.getElem?_cons_zero, List.getElem?_cons_succ] at x0 x1 x2
  have k0 := HK5.out.cell 0
  have k1 := HK5.out.cell 1
  simp only [List.getElem?_toArray, List.getElem?_cons_zero, List.getElem?_cons_succ] at k0 k1
  go_wp2_with fail
  obtain ⟨w6, hw⟩ : ∃ y_, y_ = w5.alloc (.cells #[.int .i64 at_, .int .i64 x] 3) := ⟨_, rfl⟩
  obtain ⟨b6, hbx⟩ : ∃ y_, y_ = w5.heap.size := ⟨_, rfl⟩
  have hb : Below w5.heap.size w5 w6 := by rw [hw]; exact below_alloc _ _
  have hl : Lies w6 b6 3 #[.int .i64 at_, .int .i64 x] := by rw [hw, hbx]; exact Lies.new _ _ _
  rw [← hw, ← hbx]
  clear hw hbx
  clear x0 x1 x2 k0 k1
  have HB6 := hid (then_w HB5.out hb)
  have HX6 := hid (HX5.out.later hb)
  have HK6 := hid (HK5.out.later hb)
  clear hb
  clear HB5 HX5 HK5
  refine (cdo_any13 h 9 s [at_, x] (some ⟨b6, 0, none⟩) 2 A c _ (HS.out.below HB6.out) HF.out (lies_ints13 hl rfl) (by simp) HWD.out).mono ?_
  rintro e w7 ⟨A2, c2, rfl, ⟨l2, ho2, hm2⟩, hb⟩
  rw [D1.out] at hm2
  rw [D1.out]
  have QM2 : Hid (l2.map (·.o) = g.objs) := hm2
  clear hm2
  clear hl
  have HB7 := hid (then_w HB6.out hb)
  have HX7 := hid (HX6.out.later hb)
  have HK7 := hid (HK6.out.later hb)
  clear hb
  clear HB6 HX6 HK6
  have Q7 := hid ho2
  clear ho2
  go_upto_region 5 with fail
  obtain ⟨w8, hw⟩ : ∃ x, x = w7.alloc (.cells #[.slice A2 g.objs.length c2, .int .i64 g.cap, .int .i64 g.last] 24) := ⟨_, rfl⟩
  obtain ⟨bg, hbx⟩ : ∃ x, x = w7.heap.size := ⟨_, rfl⟩
  have G8 : Hid (Lies w8 bg 24 #[.slice A2 g.objs.length c2, .int .i64 g.cap, .int .i64 g.last]) := by show Lies _ _ _ _; rw [hw, hbx]; exact Lies.new _ _ _
  have hb : Below w7.heap.size w7 w8 := by rw [hw]; exact below_alloc _ _
  rw [← hw, ← hbx]
  have ne_HX_G : Hid (w.heap.size ≠ bg) := by show _ ≠ _; rw [hbx]; exact Nat.ne_of_lt HX7.out.lt
  have ne_HK_G : Hid ((w.heap.size + 1) ≠ bg) := by show _ ≠ _; rw [hbx]; exact Nat.ne_of_lt HK7.out.lt
  have at_G : Hid (bg = w7.heap.size) := hbx
  have le_HB_G : Hid (w.heap.size ≤ bg) := by show _ ≤ _; rw [hbx]; exact HB7.out.size
  clear hbx hw
  have HB8 := hid (then_w HB7.out hb)
  have HX8 := hid (HX7.out.later hb)
  have HK8 := hid (HK7.out.later hb)
  have Q8 := hid (Q7.out.later hb)
  clear hb
  clear HB7 HX7 HK7 Q7
  have x0 := HX8.out.cell 0
  have x1 := HX8.out.cell 1
  have x2 := HX8.out.cell 2
  simp only [List.getElem?_toArray, List.getElem?_cons_zero, List.getElem?_cons_succ] at x0 x1 x2
  have k0 := HK8.out.cell 0
  have k1 := HK8.out.cell 1
  simp only [List.getElem?_toArray, List.getElem?_cons_zero, List.getElem?_cons_succ] at k0 k1
  have g_0 := G8.out.cell 0
  have g_1 := G8.out.cell 1
  have g_2 := G8.out.cell 2
  simp only [List.getElem?_toArray, List.getElem?_cons_zero, List.getElem?_cons_succ] at g_0 g_1 g_2
  go_wp2_with fail
  obtain ⟨w9, hw⟩ : ∃ y_, y_ = w8.alloc (.cells #[.int .i64 at_] 3) := ⟨_, rfl⟩
  obtain ⟨b9, hbx⟩ : ∃ y_, y_ = w8.heap.size := ⟨_, rfl⟩
  have hb : Below w8.heap.size w8 w9 := by rw [hw]; exact below_alloc _ _
  have hl : Lies w9 b9 3 #[.int .i64 at_] := by rw [hw, hbx]; exact Lies.new _ _ _
  rw [← hw, ← hbx]
  clear hw hbx
  clear x0 x1 x2 k0 k1 g_0 g_1 g_2
  have HB9 := hid (then_w HB8.out hb)
  have HX9 := hid (HX8.out.later hb)
  have HK9 := hid (HK8.out.later hb)
  have G9 := hid (G8.out.later hb)
  have Q9 := hid (Q8.out.later hb)
  clear hb
  clear HB8 HX8 HK8 G8 Q8
  refine (cdo_any13 h 8 s [at_] (some ⟨b9, 0, none⟩) 1 A c _ (HS.out.below HB9.out) HF.out (lies_ints13 hl rfl) (by simp) HWD.out).mono ?_
  rintro e w10 ⟨A3, c3, rfl, -, hb⟩
  rw [D2.out]
  clear hl
  have HB10 := hid (then_w HB9.out hb)
  have HX10 := hid (HX9.out.later hb)
  have HK10 := hid (HK9.out.later hb)
  have G10 := hid (G9.out.later hb)
  have Q10 := hid (Q9.out.later hb)
  clear hb
  clear HB9 HX9 HK9 G9 Q9
  go_upto_region 6 with fail
  obtain ⟨w11, hw⟩ : ∃ x, x = w10.alloc (.cells #[.slice A3 h.objs.length c3, .int .i64 h.cap, .int .i64 h.last] 24) := ⟨_, rfl⟩
  have hb : Below w10.heap.size w10 w11 := by rw [hw]; exact below_alloc _ _
  rw [← hw]
  clear hw
  have HB11 := hid (then_w HB10.out hb)
  have HX11 := hid (HX10.out.later hb)
  have HK11 := hid (HK10.out.later hb)
  have G11 := hid (G10.out.later hb)
  have Q11 := hid (Q10.out.later hb)
  clear hb
  clear HB10 HX10 HK10 G10 Q10
  have x0 := HX11.out.cell 0
  have x1 := HX11.out.cell 1
  have x2 := HX11.out.cell 2
  simp only [List.getElem?_toArray, List.getElem?_cons_zero, List.getElem?_cons_succ] at x0 x1 x2
  have k0 := HK11.out.cell 0
  have k1 := HK11.out.cell 1
  simp only [List.getElem?_toArray, List.getElem?_cons_zero, List.getElem?_cons_succ] at k0 k1
  have g_0 := G11.out.cell 0
  have g_1 := G11.out.cell 1
  have g_2 := G11.out.cell 2
  simp only [List.getElem?_toArray, List.getElem?_cons_zero, List.getElem?_cons_succ] at g_0 g_1 g_2
  go_wp2_with fail
  clear x0 x1 x2 k0 k1 g_0 g_1 g_2
  refine (cdo_any13 h 10 s [] none 0 A c _ (HS.out.below HB11.out) HF.out (fun h => absurd h (by decide)) (by decide) HWD.out).mono ?_
  rintro e w12 ⟨A4, c4, rfl, -, hb⟩
  rw [D3.out]
  have HB12 := hid (then_w HB11.out hb)
  have HX12 := hid (HX11.out.later hb)
  have HK12 := hid (HK11.out.later hb)
  have G12 := hid (G11.out.later hb)
  have Q12 := hid (Q11.out.later hb)
  clear hb
  clear HB11 HX11 HK11 G11 Q11
  go_upto_region 9 with fail
  obtain ⟨w13, hw⟩ : ∃ x, x = w12.alloc (.cells #[.slice A4 h.objs.length c4, .int .i64 h.cap, .int .i64 h.last] 24) := ⟨_, rfl⟩
  have hb : Below w12.heap.size w12 w13 := by rw [hw]; exact below_alloc _ _
  rw [← hw]
  clear hw
  have HB13 := hid (then_w HB12.out hb)
  have HX13 := hid (HX12.out.later hb)
  have HK13 := hid (HK12.out.later hb)
  have G13 := hid (G12.out.later hb)
  have Q13 := hid (Q12.out.later hb)
  clear hb
  clear HB12 HX12 HK12 G12 Q12
  have x0 := HX13.out.cell 0
  have x1 := HX13.out.cell 1
  have x2 := HX13.out.cell 2
  simp only [List.getElem?_toArray, List.getElem?_cons_zero, List.getElem?_cons_succ] at x0 x1 x2
  have k0 := HK13.out.cell 0
  have k1 := HK13.out.cell 1
  simp only [List.getElem?_toArray, List.getElem?_cons_zero, List.getElem?_cons_succ] at k0 k1
  have g_0 := G13.out.cell 0
  have g_1 := G13.out.cell 1
  have g_2 := G13.out.cell 2
  simp only [List.getElem?_toArray, List.getElem?_cons_zero, List.getElem?_cons_succ] at g_0 g_1 g_2
  go_wp2_with fail
  obtain ⟨w14, hw⟩ : ∃ y_, y_ = w13.alloc (.cells #[.int .i64 at_] 3) := ⟨_, rfl⟩
  obtain ⟨b14, hbx⟩ : ∃ y_, y_ = w13.heap.size := ⟨_, rfl⟩
  have hb : Below w13.heap.size w13 w14 := by rw [hw]; exact below_alloc _ _
  have hl : Lies w14 b14 3 #[.int .i64 at_] := by rw [hw, hbx]; exact Lies.new _ _ _
  rw [← hw, ← hbx]
  clear hw hbx
  clear x0 x1 x2 k0 k1 g_0 g_1 g_2
  have HB14 := hid (then_w HB13.out hb)
  have HX14 := hid (HX13.out.later hb)
  have HK14 := hid (HK13.out.later hb)
  have G14 := hid (G13.out.later hb)
  have Q14 := hid (Q13.out.later hb)
  clear hb
  clear HB13 HX13 HK13 G13 Q13
  refine (cdo_any13 g 8 s [at_] (some ⟨b14, 0, none⟩) 1 A2 c2 _ (own_obs Q14.out QM2.out) GF.out (lies_ints13 hl rfl) (by simp) GW.out).mono ?_
  rintro e w15 ⟨A5, c5, rfl, -, hb⟩
  rw [D4.out]
  clear hl
  have HB15 := hid (then_w HB14.out hb)
  have HX15 := hid (HX14.out.later hb)
  have HK15 := hid (HK14.out.later hb)
  have G15 := hid (G14.out.later hb)
  have Q15 := hid (Q14.out.later hb)
  clear hb
  clear HB14 HX14 HK14 G14 Q14
  go_upto_region 12 with fail
  obtain ⟨w16, hw⟩ : ∃ x, x = w15.alloc (.cells #[.slice A5 g.objs.length c5, .int .i64 g.cap, .int .i64 g.last] 24) := ⟨_, rfl⟩
  have hb : Below w15.heap.size w15 w16 := by rw [hw]; exact below_alloc _ _
  rw [← hw]
  clear hw
  have HB16 := hid (then_w HB15.out hb)
  have HX16 := hid (HX15.out.later hb)
  have HK16 := hid (HK15.out.later hb)
  have G16 := hid (G15.out.later hb)
  have Q16 := hid (Q15.out.later hb)
  clear hb
  clear HB15 HX15 HK15 G15 Q15
  have x0 := HX16.out.cell 0
  have x1 := HX16.out.cell 1
  have x2 := HX16.out.cell 2
  simp only [List.getElem?_toArray, List.getElem?_cons_zero, List.getElem?_cons_succ] at x0 x1 x2
  have k0 := HK16.out.cell 0
  have k1 := HK16.out.cell 1
  simp only [List.getElem?_toArray, List.getElem?_cons_zero, List.getElem?_cons_succ] at k0 k1
  have g_0 := G16.out.cell 0
  have g_1 := G16.out.cell 1
  have g_2 := G16.out.cell 2
  simp only [List.getElem?_toArray, List.getElem?_cons_zero, List.getElem?_cons_succ] at g_0 g_1 g_2
  go_wp2_with fail
  obtain ⟨w17, hw⟩ : ∃ y_, y_ = w16.alloc (.cells #[.int .i64 at_, .int .i64 old] 3) := ⟨_, rfl⟩
  obtain ⟨b17, hbx⟩ : ∃ y_, y_ = w16.heap.size := ⟨_, rfl⟩
  have hb : Below w16.heap.size w16 w17 := by rw [hw]; exact below_alloc _ _
  have hl : Lies w17 b17 3 #[.int .i64 at_, .int .i64 old] := by rw [hw, hbx]; exact Lies.new _ _ _
  rw [← hw, ← hbx]
  clear hw hbx
  clear x0 x1 x2 k0 k1 g_0 g_1 g_2
  have HB17 := hid (then_w HB16.out hb)
  have HX17 := hid (HX16.out.later hb)
  have HK17 := hid (HK16.out.later hb)
  have G17 := hid (G16.out.later hb)
  have Q17 := hid (Q16.out.later hb)
  clear hb
  clear HB16 HX16 HK16 G16 Q16
  refine (cdo_any13 g 9 s [at_, old] (some ⟨b17, 0, none⟩) 2 A2 c2 _ (own_obs Q17.out QM2.out) GF.out (lies_ints13 hl rfl) (by simp) GW.out).mono ?_
  rintro e w18 ⟨A6, c6, rfl, ⟨l6, ho6, hm6⟩, hb⟩
  rw [D5.out] at hm6
  rw [D5.out]
  have QM6 : Hid (l6.map (·.o) = h.objs) := hm6
  clear hm6
  clear hl
  have HB18 := hid (then_w HB17.out hb)
  have HX18 := hid (HX17.out.later hb)
  have HK18 := hid (HK17.out.later hb)
  have G18 := hid (G17.out.later hb)
  have Q18 := hid (Q17.out.later hb)
  clear hb
  clear HB17 HX17 HK17 G17 Q17
  have P18 := hid ho6
  clear ho6
  go_upto_region 13 with fail
  obtain ⟨w19, hw⟩ : ∃ x, x = w18.alloc (.cells #[.slice A6 h.objs.length c6, .int .i64 h.cap, .int .i64 h.last] 24) := ⟨_, rfl⟩
  obtain ⟨bk, hbx⟩ : ∃ x, x = w18.heap.size := ⟨_, rfl⟩
  have K19 : Hid (Lies w19 bk 24 #[.slice A6 h.objs.length c6, .int .i64 h.cap, .int .i64 h.last]) := by show Lies _ _ _ _; rw [hw, hbx]; exact Lies.new _ _ _
  have hb : Below w18.heap.size w18 w19 := by rw [hw]; exact below_alloc _ _
  rw [← hw, ← hbx]
  have ne_HX_K : Hid (w.heap.size ≠ bk) := by show _ ≠ _; rw [hbx]; exact Nat.ne_of_lt HX18.out.lt
  have ne_HK_K : Hid ((w.heap.size + 1) ≠ bk) := by show _ ≠ _; rw [hbx]; exact Nat.ne_of_lt HK18.out.lt
  have ne_G_K : Hid (bg ≠ bk) := by show _ ≠ _; rw [hbx]; exact Nat.ne_of_lt G18.out.lt
  have at_K : Hid (bk = w18.heap.size) := hbx
  have le_HB_K : Hid (w.heap.size ≤ bk) := by show _ ≤ _; rw [hbx]; exact HB18.out.size
  clear hbx hw
  have HB19 := hid (then_w HB18.out hb)
  have HX19 := hid (HX18.out.later hb)
  have HK19 := hid (HK18.out.later hb)
  have G19 := hid (G18.out.later hb)
  have Q19 := hid (Q18.out.later hb)
  have P19 := hid (P18.out.later hb)
  clear hb
  clear HB18 HX18 HK18 G18 Q18 P18
  have x0 := HX19.out.cell 0
  have x1 := HX19.out.cell 1
  have x2 := HX19.out.cell 2
  simp only [List.getElem?_toArray, List.getElem?_cons_zero, List.getElem?_cons_succ] at x0 x1 x2
  have k0 := HK19.out.cell 0
  have k1 := HK19.out.cell 1
  simp only [List.getElem?_toArray, List.getElem?_cons_zero, List.getElem?_cons_succ] at k0 k1
  have g_0 := G19.out.cell 0
  have g_1 := G19.out.cell 1
  have g_2 := G19.out.cell 2
  simp only [List.getElem?_toArray, List.getElem?_cons_zero, List.getElem?_cons_succ] at g_0 g_1 g_2
  have m_0 := K19.out.cell 0
  have m_1 := K19.out.cell 1
  have m_2 := K19.out.cell 2
  simp only [List.getElem?_toArray, List.getElem?_cons_zero, List.getElem?_cons_succ] at m_0 m_1 m_2
  go_wp2_with fail
  refine (same_any h A6 A c6 c _ (own_obs P19.out QM6.out) (HS.out.below HB19.out) HF.out).mono ?_
  rintro e w20 ⟨rfl, hb⟩
  clear x0 x1 x2 k0 k1 g_0 g_1 g_2 m_0 m_1 m_2
  have HB20 := hid (then_w HB19.out hb)
  have HX20 := hid (HX19.out.later hb)
  have HK20 := hid (HK19.out.later hb)
  have G20 := hid (G19.out.later hb)
  have K20 := hid (K19.out.later hb)
  have Q20 := hid (Q19.out.later hb)
  have P20 := hid (P19.out.later hb)
  clear hb
  clear HB19 HX19 HK19 G19 K19 Q19 P19
  have hlo := HLO.out
  have hhi := HHI.out
  obtain ⟨hwk, hwk2⟩ := HW.out
  have x0 := HX20.out.cell 0
  have x1 := HX20.out.cell 1
  have x2 := HX20.out.cell 2
  simp only [List.getElem?_toArray, List.getElem?_cons_zero, List.getElem?_cons_succ] at x0 x1 x2
  have k0 := HK20.out.cell 0
  have k1 := HK20.out.cell 1
  simp only [List.getElem?_toArray, List.getElem?_cons_zero, List.getElem?_cons_succ] at k0 k1
  have g_0 := G20.out.cell 0
  have g_1 := G20.out.cell 1
  have g_2 := G20.out.cell 2
  simp only [List.getElem?_toArray, List.getElem?_cons_zero, List.getElem?_cons_succ] at g_0 g_1 g_2
  go_wp2_with fail
  go_ret
  exact ⟨rfl, HB20.out⟩
end Go.Proofs.YtjhkdehngdmobaaGreat
namespace Go.Proofs.YtjhkdehngdmobaaGreat
open Go.ChangeShapes Go.WideShapes Go.RowKit Go.Deep Go.Joins
set_option maxRecDepth 100000
theorem cells2_13 : Tryz.prog.cellsOf 39 = 2 := by kernel_rfl
theorem okWide_array13 {P : Program} {t e : TypeId} {n : Nat} {w : World} {r : Reach} {base : Nat} {v : Value} (ht : P.underlying t = some (.array n e)) (h : Value.okWide P w r base t v) : ∃ cs, v = .agg cs ∧ cs.size = P.cellsOf t := by
  unfold Value.okWide at h
  rw [ht] at h
  cases v <;> simp_all
section
variable {H : Type} {enc : TypeId × Value → H} {w : World} {base : Nat} {spare : Nat → Bool} {held : Bool}
theorem open_two13 {r : Reach} {b0 : Nat} {v : Value} {d : DataW H} {p : List MemPlace} (hv : Value.okWide Tryz.prog w r b0 39 v) (h : DataW.Trod enc Tryz.prog w base spare held 39 v d p) :
    ∃ a b : Int, v = .agg #[.int .i64 a, .int .i64 b] := by
  obtain ⟨cs, rfl, hsz⟩ := okWide_array13 Tryz.underlying39 hv
  rw [cells2_13] at hsz
  obtain ⟨c0, c1, rfl⟩ := array2 hsz
  obtain ⟨fuel, hf⟩ := h
  obtain ⟨xs, m, _, _, _, hxl, hx⟩ := DataW.trod_array Tryz.underlying39 hf
  have g0 := hx 0 (by omega)
  have g1 := hx 1 (by omega)
  rw [cells3] at g0 g1
  simp [Value.cells] at g0 g1
  rw [List.getElem?_eq_getElem (by omega)] at g0 g1
  obtain ⟨a, e0, _⟩ := DataW.trod_int Tryz.underlying3 g0
  obtain ⟨b, e1, _⟩ := DataW.trod_int Tryz.underlying3 g1
  simp only [List.cons.injEq, and_true] at e0 e1
  subst e0 e1
  exact ⟨a, b, rfl⟩
end
end Go.Proofs.YtjhkdehngdmobaaGreat
namespace Go.Proofs.YtjhkdehngdmobaaGreat
open Go.ChangeShapes Go.WideShapes Go.ChangeAt Go.RowKit
set_option maxRecDepth 100000
namespace fnPrimSlots
theorem own : ownKnob Tryz.prog.godebug = none := by kernel_rfl
theorem laidOut : laidOutB Tryz.prog = true := by kernel_rfl
theorem lifted (os : Os) (started : os.Started) (H : Type) (enc : TypeId × Value → H) :
    ReturnsInHanded {} Tryz.checked os 7 .any (Rows.primSlotsSpec.pre6 enc Tryz.prog Tryz.f7 Rows.primSlotsRow.domain false) (Rows.primSlotsSpec.post enc Tryz.prog Tryz.f7 false true false false) := by
  refine returnsInHanded_of_change (C := Tryz.checked) own started (by kernel_rfl) Tryz.func7
    (ChangeSpec.witness6 (enc := enc) (C := Tryz.checked) false ⟨#[], #[.agg #[.slice none 0 0, .int .i64 0, .int .i64 0], .int .i64 0, .agg #[.int .i64 0, .int .i64 0]], []⟩ 8 (by kernel_rfl) (by kernel_rfl) (by kernel_rfl) (by kernel_rfl)) ?_
  intro W base args ds gs before hval0 hW hcnd _
  have hval : ∀ (j : Nat) t v, Tryz.f7.params[j]? = some t → args[j]? = some v → Value.okWide Tryz.prog W .any base t v := hval0
  have hW' := hW
  obtain ⟨p, q, hA0, hV, rfl, hfz, hnd⟩ := hW
  have hA : DataW.TrodAll enc Tryz.prog W 0 (fun _ => true) true Tryz.f7.params.toList args.toList ds p := hA0
  rw [Tryz.params7] at hA hval
  obtain ⟨v0, v1, v2, d0, d1, d2, p0, p1, p2, rfl, rfl, rfl, h0, h1, h2⟩ := trodAll_three hA
  obtain ⟨rfl, rfl⟩ := trodVars_none hV
  obtain ⟨hp0, A0, c0, rfl, ob0, ft0, wd0⟩ := open_heap13 (hval 0 24 v0 rfl rfl) h0
  obtain ⟨i1, rfl, -, -, -⟩ := open_int Tryz.underlying3 (hval 1 3 v1 rfl rfl) h1
  obtain ⟨a2, b2, rfl⟩ := open_two13 (hval 2 39 v2 rfl rfl) h2
  clear hA0 hval0
  simp only [List.append_nil] at hW'
  refine (primslots_any13 hp0 i1 a2 b2 A0 c0 W ob0 ft0 wd0).mono fun e W' ⟨he, hb⟩ => ?_
  subst he
  exact ⟨_, rfl, law_post laidOut (by kernel_rfl) rfl (by kernel_rfl) Tryz.underlying4 hW' rfl hb⟩
end fnPrimSlots
theorem primSlots_holds : Rows.PrimSlotsSaid :=
  OpenClaim.holds_of_wide 7 Tryz.f7 rfl rfl rfl rfl rfl rfl rfl ⟨rfl, rfl, rfl, rfl, rfl⟩ rfl rfl rfl rfl rfl (by kernel_rfl) Tryz.func7 (by kernel_rfl)
    (of_decide_eq_true (by kernel_rfl)) (by unfold Func.isWrapper; first | (rw [if_pos (by decide +kernel)]; kernel_rfl) | (rw [if_neg (by decide +kernel)]; exact ⟨rfl, rfl⟩))
    (fun os started H enc _ => fnPrimSlots.lifted os started H enc)
end Go.Proofs.YtjhkdehngdmobaaGreat
