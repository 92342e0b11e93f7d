/- Two that have become each other, by primitives: mathematics. PrimBecomes: the law. -/
import Derived.Test.YtjhkdehngdmobaaGreatPA13
import Derived.Test.YtjhkdehngdmobaaGreatMB
import Derived.Test.YtjhkdehngdmobaaGreatPX13
import Derived.Test.YtjhkdehngdmobaaGreatN
import Derived.Test.YtjhkdehngdmobaaGreatR
namespace Go.Proofs.YtjhkdehngdmobaaGreat
open Go.RowKit Flt
theorem do_may13 {h : Hp} {num s : Int} {args : List Int} (hm : mayB h = true) (hl : 12 ≤ h.objs.length) (hs : hasB h.objs.length s = true) (ha : args.all (hasB h.objs.length) = true) (hn : ar13 num = some args.length) :
    do13 h num s args = pr13 h num s (args.getD 0 0) (args.getD 1 0) := by
  unfold do13
  rw [if_neg (by rw [hm, hs, ha]; simp; omega), if_neg (fun e => e hn)]
theorem ref_has13 {n : Nat} {v : Int} (h : refB n v = true) : hasB n v = true := by unfold hasB; rw [h, Bool.or_true]
theorem ref_no13 {n : Nat} {v : Int} (h : refB n v = true) : nB v = false := by
  have h1 := (refB_no h).1
  unfold atB at h1
  simp only [Bool.and_eq_true, Bool.not_eq_true'] at h1
  unfold nB
  rw [h1.1]; rfl
theorem hash_sm13 {n : Nat} {o : Ob} (h : obB n o = true) : smB o.hash = true := by
  unfold obB haB at h
  simp only [Bool.and_eq_true, decide_eq_true_eq] at h
  exact smB_iff.2 (by omega)
/-- may these two become each other? -/
theorem ge_ref13 {n : Nat} {v : Int} (h : 12 ≤ refI n v) : refB n v = true ∧ atB v = true ∧ 12 ≤ atV v := by
  unfold refI at h
  split at h
  · rename_i g
    exact ⟨g, (refB_no g).1, h⟩
  · omega
theorem lt_ref13 {n : Nat} {v : Int} (hh : hasB n v = true) (h : ¬ 12 ≤ refI n v) : atB v = false ∨ atV v < 12 := by
  unfold hasB at hh
  cases g : refB n v
  · rw [g, Bool.or_false] at hh
    left
    unfold nB at hh
    unfold atB
    simp only [Bool.and_eq_true] at hh
    rw [hh.1]; rfl
  · right
    rw [refI_nonneg g] at h
    omega
structure Bec13 (h k : Hp) (a b : Int) : Prop where
  b1 : do13 h 16 a [b] = (k, a, 0)
  b2 : do13 k 13 a [] = (k, (obAt h b).cls, 0)
  b3 : do13 h 13 b [] = (h, (obAt h b).cls, 0)
  b4 : do13 k 15 b [] = (k, 2 * (obAt h a).hash + 1, 0)
  b5 : do13 h 15 a [] = (h, 2 * (obAt h a).hash + 1, 0)
  b6 : do13 k 16 b [a] = (h, b, 0)
  fit : k.Fit
  wd : (∀ o ∈ h.objs, In64 o.bits) → ∀ o ∈ k.objs, In64 o.bits
theorem bec13 {h : Hp} {a b : Int} (hm : mayB h = true) (hl : 12 ≤ h.objs.length) (ha : 12 ≤ refI h.objs.length a) (hb : 12 ≤ refI h.objs.length b) : Bec13 h (swH h a b) a b := by
  obtain ⟨ra, ta, va⟩ := ge_ref13 ha
  obtain ⟨rb, tb, vb⟩ := ge_ref13 hb
  have S := swaps hm ra rb
  have ra' : refB (swH h a b).objs.length a = true := by rw [S.len]; exact ra
  have rb' : refB (swH h a b).objs.length b = true := by rw [S.len]; exact rb
  have hl' : 12 ≤ (swH h a b).objs.length := by rw [S.len]; exact hl
  have ea : obAt (swH h a b) a = obAt h b := sw_at ra rb
  have eb : obAt (swH h a b) b = obAt h a := by rw [← sw_sym ra rb]; exact sw_at rb ra
  have hsh := hash_sm13 (may_all hm _ (ob_mem ra))
  refine ⟨?_, ?_, ?_, ?_, ?_, ?_, S.fit, fun wd o ho => ?_⟩
  · rw [do_may13 hm hl (ref_has13 ra) (by simpa using ref_has13 rb) (show ar13 16 = some 1 by decide)]
    show id13 h 16 a b = _
    unfold id13
    rw [if_neg (by decide), if_neg (by decide), if_neg (by decide), if_neg (by rw [ta, tb]; simp; omega), S.r1]
  · rw [do_may13 S.may hl' (ref_has13 ra') rfl (by decide)]
    show ((swH h a b, (lf9 (swH h a b) a).1, 0) : Rs) = _
    unfold lf9
    rw [if_neg (by rw [S.may]; decide), if_neg (by rw [ref_no13 ra]; decide), if_pos ra', ea]
  · rw [do_may13 hm hl (ref_has13 rb) rfl (by decide)]
    show ((h, (lf9 h b).1, 0) : Rs) = _
    unfold lf9
    rw [if_neg (by rw [hm]; decide), if_neg (by rw [ref_no13 rb]; decide), if_pos rb]
  · rw [do_may13 S.may hl' (ref_has13 rb') rfl (by decide)]
    show (if nB b then ((swH h a b, b, 0) : Rs) else in13 (swH h a b) (obAt (swH h a b) b).hash) = _
    rw [if_neg (by rw [ref_no13 rb]; decide), eb]
    unfold in13
    rw [if_pos hsh]
  · rw [do_may13 hm hl (ref_has13 ra) rfl (by decide)]
    show (if nB a then ((h, a, 0) : Rs) else in13 h (obAt h a).hash) = _
    rw [if_neg (by rw [ref_no13 ra]; decide)]
    unfold in13
    rw [if_pos hsh]
  · rw [do_may13 S.may hl' (ref_has13 rb') (by simpa using ref_has13 ra') (show ar13 16 = some 1 by decide)]
    show id13 (swH h a b) 16 b a = _
    unfold id13
    rw [if_neg (by decide), if_neg (by decide), if_neg (by decide), if_neg (by rw [ta, tb]; simp; omega), S.r2]
  · unfold swH putO at ho
    rcases List.mem_or_eq_of_mem_set ho with g | g
    · rcases List.mem_or_eq_of_mem_set g with g | g
      · exact wd o g
      · rw [g]; exact wd _ (ob_mem rb)
    · rw [g]; exact wd _ (ob_mem ra)
theorem bec_no13 {h : Hp} {a b : Int} (hm : mayB h = true) (hl : 12 ≤ h.objs.length) (ha : hasB h.objs.length a = true) (hb : hasB h.objs.length b = true) (hn : ¬ (12 ≤ refI h.objs.length a ∧ 12 ≤ refI h.objs.length b)) : do13 h 16 a [b] = (h, 0, 130) := by
  rw [do_may13 hm hl ha (by simpa using hb) (show ar13 16 = some 1 by decide)]
  show id13 h 16 a b = _
  unfold id13
  rw [if_neg (by decide), if_neg (by decide), if_neg (by decide), if_pos]
  · rfl
  by_cases g : 12 ≤ refI h.objs.length a
  · rcases lt_ref13 hb (fun e => hn ⟨g, e⟩) with e | e
    · exact .inr (.inr (.inl e))
    · exact .inr (.inr (.inr e))
  · rcases lt_ref13 ha g with e | e
    · exact .inl e
    · exact .inr (.inl e)
end Go.Proofs.YtjhkdehngdmobaaGreat
namespace Go.Proofs.YtjhkdehngdmobaaGreat
open Go.RowKit Flt
set_option maxRecDepth 100000
set_option maxHeartbeats 4000000 in
theorem primbecomes_any13 (h : Hp) (a b : Int) (A : Option Addr) (c : Nat) (w : World) (hs : ObsR w A h.objs) (fit : h.Fit) (wd : ∀ o ∈ h.objs, In64 o.bits) :
    Calls Tryz.prog 8 #[.agg #[.slice A h.objs.length c, .int .i64 h.cap, .int .i64 h.last], .int .i64 a, .int .i64 b] w fun e w' => e = .returned (.bool true) ∧ Below w.heap.size w w' := by
  obtain ⟨w0, hw0⟩ : ∃ w0, w0 = w.alloc (.cells #[Value.slice A h.objs.length c, Value.int .i64 h.cap, Value.int .i64 h.last] 24) := ⟨_, rfl⟩
  have HB0 : Hid (Below w.heap.size w w0) := by show Below _ _ _; rw [hw0]; exact below_alloc _ _
  have HX0 : Hid (Lies w0 w.heap.size 24 #[Value.slice A h.objs.length c, Value.int .i64 h.cap, Value.int .i64 h.last]) := by show Lies _ _ _ _; rw [hw0]; exact (Lies.new w _ _)
  have HS := hid hs
  have HF := hid fit
  have HWD := hid wd
  clear hs fit wd
  go_enter Tryz.func8, Tryz.ntmps8
  go_upto_region 1 with fail
  rw [← hw0]
  clear hw0
  go_wp2_with fail
  refine (fixed13_any _).mono ?_
  rintro e w1 ⟨rfl, hb⟩
  have HB1 := hid (then_w HB0.out hb)
  have HX1 := hid (HX0.out.later hb)
  clear hb
  clear HB0 HX0
  have x0 := HX1.out.cell 0
  have x1 := HX1.out.cell 1
  have x2 := HX1.out.cell 2
  simp only [List.getElem?_toArray, List.getElem?_cons_zero, List.getElem?_cons_succ] at x0 x1 x2
  go_wp2_with fail
  refine (small_ok h A c _ (HS.out.below HB1.out) HF.out).mono ?_
  rintro e w2 ⟨sb, rfl, hb⟩
  clear x0 x1 x2
  have HB2 := hid (then_w HB1.out hb)
  have HX2 := hid (HX1.out.later hb)
  clear hb
  clear HB1 HX1
  cases sb
  · have x0 := HX2.out.cell 0
    have x1 := HX2.out.cell 1
    have x2 := HX2.out.cell 2
    simp only [List.getElem?_toArray, List.getElem?_cons_zero, List.getElem?_cons_succ] at x0 x1 x2
    go_wp2_with fail
    refine (fixed13_any _).mono ?_
    rintro e w3 ⟨rfl, hb⟩
    clear x0 x1 x2
    have HB3 := hid (then_w HB2.out hb)
    have HX3 := hid (HX2.out.later hb)
    clear hb
    clear HB2 HX2
    go_wp2_with fail
    go_ret
    exact ⟨rfl, HB3.out⟩
  by_cases h60 : h.objs.length ≤ 60
  case neg =>
    have hI60 : (60 : Int) < (h.objs.length : Int) := by omega
    have hI12 : ¬ (h.objs.length : Int) < 12 := by omega
    have x0 := HX2.out.cell 0
    have x1 := HX2.out.cell 1
    have x2 := HX2.out.cell 2
    simp only [List.getElem?_toArray, List.getElem?_cons_zero, List.getElem?_cons_succ] at x0 x1 x2
    go_wp2_with fail
    refine (fixed13_any _).mono ?_
    rintro e w3 ⟨rfl, hb⟩
    clear x0 x1 x2
    have HB3 := hid (then_w HB2.out hb)
    have HX3 := hid (HX2.out.later hb)
    clear hb
    clear HB2 HX2
    go_wp2_with fail
    go_ret
    exact ⟨rfl, HB3.out⟩
  have hI60 : ¬ (60 : Int) < (h.objs.length : Int) := by omega
  by_cases h12 : 12 ≤ h.objs.length
  case neg =>
    have hI12 : (h.objs.length : Int) < 12 := by omega
    have x0 := HX2.out.cell 0
    have x1 := HX2.out.cell 1
    have x2 := HX2.out.cell 2
    simp only [List.getElem?_toArray, List.getElem?_cons_zero, List.getElem?_cons_succ] at x0 x1 x2
    go_wp2_with fail
    refine (fixed13_any _).mono ?_
    rintro e w3 ⟨rfl, hb⟩
    clear x0 x1 x2
    have HB3 := hid (then_w HB2.out hb)
    have HX3 := hid (HX2.out.later hb)
    clear hb
    clear HB2 HX2
    go_wp2_with fail
    go_ret
    exact ⟨rfl, HB3.out⟩
  have hI12 : ¬ (h.objs.length : Int) < 12 := by omega
  have H12 := hid h12
  have x0 := HX2.out.cell 0
  have x1 := HX2.out.cell 1
  have x2 := HX2.out.cell 2
  simp only [List.getElem?_toArray, List.getElem?_cons_zero, List.getElem?_cons_succ] at x0 x1 x2
  go_wp2_with fail
  refine (rmay_any h A c _ (HS.out.below HB2.out) HF.out).mono ?_
  rintro e w3 ⟨rfl, hb⟩
  clear x0 x1 x2
  have HB3 := hid (then_w HB2.out hb)
  have HX3 := hid (HX2.out.later hb)
  clear hb
  clear HB2 HX2
  cases hm : mayB h
  · clear hm
    have x0 := HX3.out.cell 0
    have x1 := HX3.out.cell 1
    have x2 := HX3.out.cell 2
    simp only [List.getElem?_toArray, List.getElem?_cons_zero, List.getElem?_cons_succ] at x0 x1 x2
    go_wp2_with fail
    refine (fixed13_any _).mono ?_
    rintro e w4 ⟨rfl, hb⟩
    clear x0 x1 x2
    have HB4 := hid (then_w HB3.out hb)
    have HX4 := hid (HX3.out.later hb)
    clear hb
    clear HB3 HX3
    go_wp2_with fail
    go_ret
    exact ⟨rfl, HB4.out⟩
  have HM := hid hm
  clear hm
  have x0 := HX3.out.cell 0
  have x1 := HX3.out.cell 1
  have x2 := HX3.out.cell 2
  simp only [List.getElem?_toArray, List.getElem?_cons_zero, List.getElem?_cons_succ] at x0 x1 x2
  go_wp2_with fail
  refine (rhas_any h a A c _).mono ?_
  rintro e w4 ⟨rfl, hb⟩
  clear x0 x1 x2
  have HB4 := hid (then_w HB3.out hb)
  have HX4 := hid (HX3.out.later hb)
  clear hb
  clear HB3 HX3
  cases hh : hasB h.objs.length a
  · clear hh
    have x0 := HX4.out.cell 0
    have x1 := HX4.out.cell 1
    have x2 := HX4.out.cell 2
    simp only [List.getElem?_toArray, List.getElem?_cons_zero, List.getElem?_cons_succ] at x0 x1 x2
    go_wp2_with fail
    refine (fixed13_any _).mono ?_
    rintro e w5 ⟨rfl, hb⟩
    clear x0 x1 x2
    have HB5 := hid (then_w HB4.out hb)
    have HX5 := hid (HX4.out.later hb)
    clear hb
    clear HB4 HX4
    go_wp2_with fail
    go_ret
    exact ⟨rfl, HB5.out⟩
  have HA := hid hh
  clear hh
  have x0 := HX4.out.cell 0
  have x1 := HX4.out.cell 1
  have x2 := HX4.out.cell 2
  simp only [List.getElem?_toArray, List.getElem?_cons_zero, List.getElem?_cons_succ] at x0 x1 x2
  go_wp2_with fail
  refine (rhas_any h b A c _).mono ?_
  rintro e w5 ⟨rfl, hb⟩
  clear x0 x1 x2
  have HB5 := hid (then_w HB4.out hb)
  have HX5 := hid (HX4.out.later hb)
  clear hb
  clear HB4 HX4
  cases hh : hasB h.objs.length b
  · clear hh
    have x0 := HX5.out.cell 0
    have x1 := HX5.out.cell 1
    have x2 := HX5.out.cell 2
    simp only [List.getElem?_toArray, List.getElem?_cons_zero, List.getElem?_cons_succ] at x0 x1 x2
    go_wp2_with fail
    refine (fixed13_any _).mono ?_
    rintro e w6 ⟨rfl, hb⟩
    clear x0 x1 x2
    have HB6 := hid (then_w HB5.out hb)
    have HX6 := hid (HX5.out.later hb)
    clear hb
    clear HB5 HX5
    go_wp2_with fail
    go_ret
    exact ⟨rfl, HB6.out⟩
  have HC := hid hh
  clear hh
  by_cases hr : 12 ≤ refI h.objs.length a ∧ 12 ≤ refI h.objs.length b
  case neg =>
    have D := hid (bec_no13 HM.out H12.out HA.out HC.out hr)
    have HR := hid hr
    clear hr
    have x0 := HX5.out.cell 0
    have x1 := HX5.out.cell 1
    have x2 := HX5.out.cell 2
    simp only [List.getElem?_toArray, List.getElem?_cons_zero, List.getElem?_cons_succ] at x0 x1 x2
    go_wp2_with fail
    obtain ⟨w6, hw⟩ : ∃ x, x = w5.alloc (.cells #[.int .i64 b] 3) := ⟨_, rfl⟩
    obtain ⟨b6, hbx⟩ : ∃ x, x = w5.heap.size := ⟨_, rfl⟩
    have hb : Below w5.heap.size w5 w6 := by rw [hw]; exact below_alloc _ _
    have hl : Lies w6 b6 3 #[.int .i64 b] := by rw [hw, hbx]; exact Lies.new _ _ _
    rw [← hw, ← hbx]
    clear hw hbx
    clear x0 x1 x2
    have HB6 := hid (then_w HB5.out hb)
    have HX6 := hid (HX5.out.later hb)
    clear hb
    clear HB5 HX5
    refine (cdo_any13 h 16 a [b] (some ⟨b6, 0, none⟩) 1 A c _ (HS.out.below HB6.out) HF.out (lies_ints13 hl rfl) (by simp) HWD.out).mono ?_
    rintro e w7 ⟨A2, c2, rfl, ⟨l2, ho2, hm2⟩, hb⟩
    rw [D.out] at hm2
    rw [D.out]
    have QM2 : Hid (l2.map (·.o) = h.objs) := hm2
    clear hm2
    clear hl
    have HB7 := hid (then_w HB6.out hb)
    have HX7 := hid (HX6.out.later hb)
    clear hb
    clear HB6 HX6
    have Q7 := hid ho2
    clear ho2
    go_upto_region 4 with fail
    obtain ⟨w8, hw⟩ : ∃ x, x = w7.alloc (.cells #[.slice A2 h.objs.length c2, .int .i64 h.cap, .int .i64 h.last] 24) := ⟨_, rfl⟩
    obtain ⟨bg, hbx⟩ : ∃ x, x = w7.heap.size := ⟨_, rfl⟩
    have G8 : Hid (Lies w8 bg 24 #[.slice A2 h.objs.length c2, .int .i64 h.cap, .int .i64 h.last]) := by show Lies _ _ _ _; rw [hw, hbx]; exact Lies.new _ _ _
    have hb : Below w7.heap.size w7 w8 := by rw [hw]; exact below_alloc _ _
    rw [← hw, ← hbx]
    have ne_HX_G : Hid (w.heap.size ≠ bg) := by show _ ≠ _; rw [hbx]; exact Nat.ne_of_lt HX7.out.lt
    have at_G : Hid (bg = w7.heap.size) := hbx
    have le_HB_G : Hid (w.heap.size ≤ bg) := by show _ ≤ _; rw [hbx]; exact HB7.out.size
    clear hbx hw
    have HB8 := hid (then_w HB7.out hb)
    have HX8 := hid (HX7.out.later hb)
    have Q8 := hid (Q7.out.later hb)
    clear hb
    clear HB7 HX7 Q7
    have x0 := HX8.out.cell 0
    have x1 := HX8.out.cell 1
    have x2 := HX8.out.cell 2
    simp only [List.getElem?_toArray, List.getElem?_cons_zero, List.getElem?_cons_succ] at x0 x1 x2
    have g0 := G8.out.cell 0
    have g1 := G8.out.cell 1
    have g2 := G8.out.cell 2
    simp only [List.getElem?_toArray, List.getElem?_cons_zero, List.getElem?_cons_succ] at g0 g1 g2
    go_wp2_with fail
    refine (rref_any h a A c _).mono ?_
    rintro e w9 ⟨rfl, hb⟩
    clear x0 x1 x2 g0 g1 g2
    have HB9 := hid (then_w HB8.out hb)
    have HX9 := hid (HX8.out.later hb)
    have G9 := hid (G8.out.later hb)
    have Q9 := hid (Q8.out.later hb)
    clear hb
    clear HB8 HX8 G8 Q8
    obtain ⟨ra, hra⟩ : ∃ r, r = refI h.objs.length a := ⟨_, rfl⟩
    rw [← hra]
    have HRA := hid hra
    clear hra
    by_cases ha : 12 ≤ ra
    case neg =>
      have x0 := HX9.out.cell 0
      have x1 := HX9.out.cell 1
      have x2 := HX9.out.cell 2
      simp only [List.getElem?_toArray, List.getElem?_cons_zero, List.getElem?_cons_succ] at x0 x1 x2
      have g0 := G9.out.cell 0
      have g1 := G9.out.cell 1
      have g2 := G9.out.cell 2
      simp only [List.getElem?_toArray, List.getElem?_cons_zero, List.getElem?_cons_succ] at g0 g1 g2
      go_wp2_with fail
      refine (same_any h A2 A c2 c _ (own_obs Q9.out QM2.out) (HS.out.below HB9.out) HF.out).mono ?_
      rintro e w10 ⟨rfl, hb⟩
      clear x0 x1 x2 g0 g1 g2
      have HB10 := hid (then_w HB9.out hb)
      have HX10 := hid (HX9.out.later hb)
      have G10 := hid (G9.out.later hb)
      have Q10 := hid (Q9.out.later hb)
      clear hb
      clear HB9 HX9 G9 Q9
      go_wp2_with fail
      go_ret
      exact ⟨rfl, HB10.out⟩
    have x0 := HX9.out.cell 0
    have x1 := HX9.out.cell 1
    have x2 := HX9.out.cell 2
    simp only [List.getElem?_toArray, List.getElem?_cons_zero, List.getElem?_cons_succ] at x0 x1 x2
    have g0 := G9.out.cell 0
    have g1 := G9.out.cell 1
    have g2 := G9.out.cell 2
    simp only [List.getElem?_toArray, List.getElem?_cons_zero, List.getElem?_cons_succ] at g0 g1 g2
    go_wp2_with fail
    refine (rref_any h b A c _).mono ?_
    rintro e w10 ⟨rfl, hb⟩
    clear x0 x1 x2 g0 g1 g2
    have HB10 := hid (then_w HB9.out hb)
    have HX10 := hid (HX9.out.later hb)
    have G10 := hid (G9.out.later hb)
    have Q10 := hid (Q9.out.later hb)
    clear hb
    clear HB9 HX9 G9 Q9
    obtain ⟨rb, hrb⟩ : ∃ r, r = refI h.objs.length b := ⟨_, rfl⟩
    rw [← hrb]
    have hb2 : ¬ 12 ≤ rb := by have := HR.out; rw [← hrb, ← HRA.out] at this; exact fun e => this ⟨ha, e⟩
    clear hrb
    have x0 := HX10.out.cell 0
    have x1 := HX10.out.cell 1
    have x2 := HX10.out.cell 2
    simp only [List.getElem?_toArray, List.getElem?_cons_zero, List.getElem?_cons_succ] at x0 x1 x2
    have g0 := G10.out.cell 0
    have g1 := G10.out.cell 1
    have g2 := G10.out.cell 2
    simp only [List.getElem?_toArray, List.getElem?_cons_zero, List.getElem?_cons_succ] at g0 g1 g2
    go_wp2_with fail
    refine (same_any h A2 A c2 c _ (own_obs Q10.out QM2.out) (HS.out.below HB10.out) HF.out).mono ?_
    rintro e w11 ⟨rfl, hb⟩
    clear x0 x1 x2 g0 g1 g2
    have HB11 := hid (then_w HB10.out hb)
    have HX11 := hid (HX10.out.later hb)
    have G11 := hid (G10.out.later hb)
    have Q11 := hid (Q10.out.later hb)
    clear hb
    clear HB10 HX10 G10 Q10
    go_wp2_with fail
    go_ret
    exact ⟨rfl, HB11.out⟩
  have D := hid (bec13 HM.out H12.out hr.1 hr.2)
  obtain ⟨k, hk⟩ : ∃ k, k = swH h a b := ⟨_, rfl⟩
  rw [← hk] at D
  clear hk
  obtain ⟨cl, hcl⟩ : ∃ x, x = (obAt h b).cls := ⟨_, rfl⟩
  obtain ⟨hs, hhs⟩ : ∃ x, x = 2 * (obAt h a).hash + 1 := ⟨_, rfl⟩
  have D1 := hid D.out.b1
  have D2 := hid D.out.b2
  have D3 := hid D.out.b3
  have D4 := hid D.out.b4
  have D5 := hid D.out.b5
  have D6 := hid D.out.b6
  have KF := hid D.out.fit
  have KW := hid (D.out.wd HWD.out)
  rw [← hcl] at D2 D3
  rw [← hhs] at D4 D5
  have HR := hid hr
  clear D hr hcl hhs
  have x0 := HX5.out.cell 0
  have x1 := HX5.out.cell 1
  have x2 := HX5.out.cell 2
  simp only [List.getElem?_toArray, List.getElem?_cons_zero, List.getElem?_cons_succ] at x0 x1 x2
  go_wp2_with fail
  obtain ⟨w6, hw⟩ : ∃ x, x = w5.alloc (.cells #[.int .i64 b] 3) := ⟨_, rfl⟩
  obtain ⟨b6, hbx⟩ : ∃ x, x = w5.heap.size := ⟨_, rfl⟩
  have hb : Below w5.heap.size w5 w6 := by rw [hw]; exact below_alloc _ _
  have hl : Lies w6 b6 3 #[.int .i64 b] := by rw [hw, hbx]; exact Lies.new _ _ _
  rw [← hw, ← hbx]
  clear hw hbx
  clear x0 x1 x2
  have HB6 := hid (then_w HB5.out hb)
  have HX6 := hid (HX5.out.later hb)
  clear hb
  clear HB5 HX5
  refine (cdo_any13 h 16 a [b] (some ⟨b6, 0, none⟩) 1 A c _ (HS.out.below HB6.out) HF.out (lies_ints13 hl rfl) (by simp) HWD.out).mono ?_
  rintro e w7 ⟨A2, c2, rfl, ⟨l2, ho2, hm2⟩, hb⟩
  rw [D1.out] at hm2
  rw [D1.out]
  have QM2 : Hid (l2.map (·.o) = k.objs) := hm2
  clear hm2
  clear hl
  have HB7 := hid (then_w HB6.out hb)
  have HX7 := hid (HX6.out.later hb)
  clear hb
  clear HB6 HX6
  have Q7 := hid ho2
  clear ho2
  go_upto_region 4 with fail
  obtain ⟨w8, hw⟩ : ∃ x, x = w7.alloc (.cells #[.slice A2 k.objs.length c2, .int .i64 k.cap, .int .i64 k.last] 24) := ⟨_, rfl⟩
  obtain ⟨bg, hbx⟩ : ∃ x, x = w7.heap.size := ⟨_, rfl⟩
  have G8 : Hid (Lies w8 bg 24 #[.slice A2 k.objs.length c2, .int .i64 k.cap, .int .i64 k.last]) := by show Lies _ _ _ _; rw [hw, hbx]; exact Lies.new _ _ _
  have hb : Below w7.heap.size w7 w8 := by rw [hw]; exact below_alloc _ _
  rw [← hw, ← hbx]
  have ne_HX_G : Hid (w.heap.size ≠ bg) := by show _ ≠ _; rw [hbx]; exact Nat.ne_of_lt HX7.out.lt
  have at_G : Hid (bg = w7.heap.size) := hbx
  have le_HB_G : Hid (w.heap.size ≤ bg) := by show _ ≤ _; rw [hbx]; exact HB7.out.size
  clear hbx hw
  have HB8 := hid (then_w HB7.out hb)
  have HX8 := hid (HX7.out.later hb)
  have Q8 := hid (Q7.out.later hb)
  clear hb
  clear HB7 HX7 Q7
  have x0 := HX8.out.cell 0
  have x1 := HX8.out.cell 1
  have x2 := HX8.out.cell 2
  simp only [List.getElem?_toArray, List.getElem?_cons_zero, List.getElem?_cons_succ] at x0 x1 x2
  have g0 := G8.out.cell 0
  have g1 := G8.out.cell 1
  have g2 := G8.out.cell 2
  simp only [List.getElem?_toArray, List.getElem?_cons_zero, List.getElem?_cons_succ] at g0 g1 g2
  go_wp2_with fail
  refine (rref_any h a A c _).mono ?_
  rintro e w9 ⟨rfl, hb⟩
  clear x0 x1 x2 g0 g1 g2
  have HB9 := hid (then_w HB8.out hb)
  have HX9 := hid (HX8.out.later hb)
  have G9 := hid (G8.out.later hb)
  have Q9 := hid (Q8.out.later hb)
  clear hb
  clear HB8 HX8 G8 Q8
  obtain ⟨ra, hra⟩ : ∃ r, r = refI h.objs.length a := ⟨_, rfl⟩
  rw [← hra]
  have ha12 : 12 ≤ ra := by rw [hra]; exact HR.out.1
  clear hra
  have x0 := HX9.out.cell 0
  have x1 := HX9.out.cell 1
  have x2 := HX9.out.cell 2
  simp only [List.getElem?_toArray, List.getElem?_cons_zero, List.getElem?_cons_succ] at x0 x1 x2
  have g0 := G9.out.cell 0
  have g1 := G9.out.cell 1
  have g2 := G9.out.cell 2
  simp only [List.getElem?_toArray, List.getElem?_cons_zero, List.getElem?_cons_succ] at g0 g1 g2
  go_wp2_with fail
  refine (rref_any h b A c _).mono ?_
  rintro e w10 ⟨rfl, hb⟩
  clear x0 x1 x2 g0 g1 g2
  have HB10 := hid (then_w HB9.out hb)
  have HX10 := hid (HX9.out.later hb)
  have G10 := hid (G9.out.later hb)
  have Q10 := hid (Q9.out.later hb)
  clear hb
  clear HB9 HX9 G9 Q9
  obtain ⟨rb, hrb⟩ : ∃ r, r = refI h.objs.length b := ⟨_, rfl⟩
  rw [← hrb]
  have hb12 : 12 ≤ rb := by rw [hrb]; exact HR.out.2
  clear hrb
  have x0 := HX10.out.cell 0
  have x1 := HX10.out.cell 1
  have x2 := HX10.out.cell 2
  simp only [List.getElem?_toArray, List.getElem?_cons_zero, List.getElem?_cons_succ] at x0 x1 x2
  have g0 := G10.out.cell 0
  have g1 := G10.out.cell 1
  have g2 := G10.out.cell 2
  simp only [List.getElem?_toArray, List.getElem?_cons_zero, List.getElem?_cons_succ] at g0 g1 g2
  go_wp2_with fail
  clear x0 x1 x2 g0 g1 g2
  refine (cdo_any13 k 13 a [] none 0 A2 c2 _ (own_obs Q10.out QM2.out) KF.out (fun h => absurd h (by decide)) (by decide) KW.out).mono ?_
  rintro e w11 ⟨A3, c3, rfl, -, hb⟩
  rw [D2.out]
  have HB11 := hid (then_w HB10.out hb)
  have HX11 := hid (HX10.out.later hb)
  have G11 := hid (G10.out.later hb)
  have Q11 := hid (Q10.out.later hb)
  clear hb
  clear HB10 HX10 G10 Q10
  go_upto_region 9 with fail
  obtain ⟨w12, hw⟩ : ∃ x, x = w11.alloc (.cells #[.slice A3 k.objs.length c3, .int .i64 k.cap, .int .i64 k.last] 24) := ⟨_, rfl⟩
  have hb : Below w11.heap.size w11 w12 := by rw [hw]; exact below_alloc _ _
  rw [← hw]
  clear hw
  have HB12 := hid (then_w HB11.out hb)
  have HX12 := hid (HX11.out.later hb)
  have G12 := hid (G11.out.later hb)
  have Q12 := hid (Q11.out.later hb)
  clear hb
  clear HB11 HX11 G11 Q11
  clear ha12 hb12
  have x0 := HX12.out.cell 0
  have x1 := HX12.out.cell 1
  have x2 := HX12.out.cell 2
  simp only [List.getElem?_toArray, List.getElem?_cons_zero, List.getElem?_cons_succ] at x0 x1 x2
  have g0 := G12.out.cell 0
  have g1 := G12.out.cell 1
  have g2 := G12.out.cell 2
  simp only [List.getElem?_toArray, List.getElem?_cons_zero, List.getElem?_cons_succ] at g0 g1 g2
  go_wp2_with fail
  clear x0 x1 x2 g0 g1 g2
  refine (cdo_any13 h 13 b [] none 0 A c _ (HS.out.below HB12.out) HF.out (fun h => absurd h (by decide)) (by decide) HWD.out).mono ?_
  rintro e w13 ⟨A4, c4, rfl, -, hb⟩
  rw [D3.out]
  have HB13 := hid (then_w HB12.out hb)
  have HX13 := hid (HX12.out.later hb)
  have G13 := hid (G12.out.later hb)
  have Q13 := hid (Q12.out.later hb)
  clear hb
  clear HB12 HX12 G12 Q12
  go_upto_region 10 with fail
  obtain ⟨w14, hw⟩ : ∃ x, x = w13.alloc (.cells #[.slice A4 h.objs.length c4, .int .i64 h.cap, .int .i64 h.last] 24) := ⟨_, rfl⟩
  have hb : Below w13.heap.size w13 w14 := by rw [hw]; exact below_alloc _ _
  rw [← hw]
  clear hw
  have HB14 := hid (then_w HB13.out hb)
  have HX14 := hid (HX13.out.later hb)
  have G14 := hid (G13.out.later hb)
  have Q14 := hid (Q13.out.later hb)
  clear hb
  clear HB13 HX13 G13 Q13
  have x0 := HX14.out.cell 0
  have x1 := HX14.out.cell 1
  have x2 := HX14.out.cell 2
  simp only [List.getElem?_toArray, List.getElem?_cons_zero, List.getElem?_cons_succ] at x0 x1 x2
  have g0 := G14.out.cell 0
  have g1 := G14.out.cell 1
  have g2 := G14.out.cell 2
  simp only [List.getElem?_toArray, List.getElem?_cons_zero, List.getElem?_cons_succ] at g0 g1 g2
  go_wp2_with fail
  clear x0 x1 x2 g0 g1 g2
  refine (cdo_any13 k 15 b [] none 0 A2 c2 _ (own_obs Q14.out QM2.out) KF.out (fun h => absurd h (by decide)) (by decide) KW.out).mono ?_
  rintro e w15 ⟨A5, c5, rfl, -, hb⟩
  rw [D4.out]
  have HB15 := hid (then_w HB14.out hb)
  have HX15 := hid (HX14.out.later hb)
  have G15 := hid (G14.out.later hb)
  have Q15 := hid (Q14.out.later hb)
  clear hb
  clear HB14 HX14 G14 Q14
  go_upto_region 11 with fail
  obtain ⟨w16, hw⟩ : ∃ x, x = w15.alloc (.cells #[.slice A5 k.objs.length c5, .int .i64 k.cap, .int .i64 k.last] 24) := ⟨_, rfl⟩
  have hb : Below w15.heap.size w15 w16 := by rw [hw]; exact below_alloc _ _
  rw [← hw]
  clear hw
  have HB16 := hid (then_w HB15.out hb)
  have HX16 := hid (HX15.out.later hb)
  have G16 := hid (G15.out.later hb)
  have Q16 := hid (Q15.out.later hb)
  clear hb
  clear HB15 HX15 G15 Q15
  have x0 := HX16.out.cell 0
  have x1 := HX16.out.cell 1
  have x2 := HX16.out.cell 2
  simp only [List.getElem?_toArray, List.getElem?_cons_zero, List.getElem?_cons_succ] at x0 x1 x2
  have g0 := G16.out.cell 0
  have g1 := G16.out.cell 1
  have g2 := G16.out.cell 2
  simp only [List.getElem?_toArray, List.getElem?_cons_zero, List.getElem?_cons_succ] at g0 g1 g2
  go_wp2_with fail
  clear x0 x1 x2 g0 g1 g2
  refine (cdo_any13 h 15 a [] none 0 A c _ (HS.out.below HB16.out) HF.out (fun h => absurd h (by decide)) (by decide) HWD.out).mono ?_
  rintro e w17 ⟨A6, c6, rfl, -, hb⟩
  rw [D5.out]
  have HB17 := hid (then_w HB16.out hb)
  have HX17 := hid (HX16.out.later hb)
  have G17 := hid (G16.out.later hb)
  have Q17 := hid (Q16.out.later hb)
  clear hb
  clear HB16 HX16 G16 Q16
  go_upto_region 12 with fail
  obtain ⟨w18, hw⟩ : ∃ x, x = w17.alloc (.cells #[.slice A6 h.objs.length c6, .int .i64 h.cap, .int .i64 h.last] 24) := ⟨_, rfl⟩
  have hb : Below w17.heap.size w17 w18 := by rw [hw]; exact below_alloc _ _
  rw [← hw]
  clear hw
  have HB18 := hid (then_w HB17.out hb)
  have HX18 := hid (HX17.out.later hb)
  have G18 := hid (G17.out.later hb)
  have Q18 := hid (Q17.out.later hb)
  clear hb
  clear HB17 HX17 G17 Q17
  have x0 := HX18.out.cell 0
  have x1 := HX18.out.cell 1
  have x2 := HX18.out.cell 2
  simp only [List.getElem?_toArray, List.getElem?_cons_zero, List.getElem?_cons_succ] at x0 x1 x2
  have g0 := G18.out.cell 0
  have g1 := G18.out.cell 1
  have g2 := G18.out.cell 2
  simp only [List.getElem?_toArray, List.getElem?_cons_zero, List.getElem?_cons_succ] at g0 g1 g2
  go_wp2_with fail
  obtain ⟨w19, hw⟩ : ∃ x, x = w18.alloc (.cells #[.int .i64 a] 3) := ⟨_, rfl⟩
  obtain ⟨b19, hbx⟩ : ∃ x, x = w18.heap.size := ⟨_, rfl⟩
  have hb : Below w18.heap.size w18 w19 := by rw [hw]; exact below_alloc _ _
  have hl : Lies w19 b19 3 #[.int .i64 a] := by rw [hw, hbx]; exact Lies.new _ _ _
  rw [← hw, ← hbx]
  clear hw hbx
  clear x0 x1 x2 g0 g1 g2
  have HB19 := hid (then_w HB18.out hb)
  have HX19 := hid (HX18.out.later hb)
  have G19 := hid (G18.out.later hb)
  have Q19 := hid (Q18.out.later hb)
  clear hb
  clear HB18 HX18 G18 Q18
  refine (cdo_any13 k 16 b [a] (some ⟨b19, 0, none⟩) 1 A2 c2 _ (own_obs Q19.out QM2.out) KF.out (lies_ints13 hl rfl) (by simp) KW.out).mono ?_
  rintro e w20 ⟨A7, c7, rfl, ⟨l7, ho7, hm7⟩, hb⟩
  rw [D6.out] at hm7
  rw [D6.out]
  have QM7 : Hid (l7.map (·.o) = h.objs) := hm7
  clear hm7
  clear hl
  have HB20 := hid (then_w HB19.out hb)
  have HX20 := hid (HX19.out.later hb)
  have G20 := hid (G19.out.later hb)
  have Q20 := hid (Q19.out.later hb)
  clear hb
  clear HB19 HX19 G19 Q19
  have P20 := hid ho7
  clear ho7
  go_upto_region 13 with fail
  obtain ⟨w21, hw⟩ : ∃ x, x = w20.alloc (.cells #[.slice A7 h.objs.length c7, .int .i64 h.cap, .int .i64 h.last] 24) := ⟨_, rfl⟩
  obtain ⟨bk, hbx⟩ : ∃ x, x = w20.heap.size := ⟨_, rfl⟩
  have K21 : Hid (Lies w21 bk 24 #[.slice A7 h.objs.length c7, .int .i64 h.cap, .int .i64 h.last]) := by show Lies _ _ _ _; rw [hw, hbx]; exact Lies.new _ _ _
  have hb : Below w20.heap.size w20 w21 := by rw [hw]; exact below_alloc _ _
  rw [← hw, ← hbx]
  have ne_HX_K : Hid (w.heap.size ≠ bk) := by show _ ≠ _; rw [hbx]; exact Nat.ne_of_lt HX20.out.lt
  have ne_G_K : Hid (bg ≠ bk) := by show _ ≠ _; rw [hbx]; exact Nat.ne_of_lt G20.out.lt
  have at_K : Hid (bk = w20.heap.size) := hbx
  have le_HB_K : Hid (w.heap.size ≤ bk) := by show _ ≤ _; rw [hbx]; exact HB20.out.size
  clear hbx hw
  have HB21 := hid (then_w HB20.out hb)
  have HX21 := hid (HX20.out.later hb)
  have G21 := hid (G20.out.later hb)
  have Q21 := hid (Q20.out.later hb)
  have P21 := hid (P20.out.later hb)
  clear hb
  clear HB20 HX20 G20 Q20 P20
  have x0 := HX21.out.cell 0
  have x1 := HX21.out.cell 1
  have x2 := HX21.out.cell 2
  simp only [List.getElem?_toArray, List.getElem?_cons_zero, List.getElem?_cons_succ] at x0 x1 x2
  have g0 := G21.out.cell 0
  have g1 := G21.out.cell 1
  have g2 := G21.out.cell 2
  simp only [List.getElem?_toArray, List.getElem?_cons_zero, List.getElem?_cons_succ] at g0 g1 g2
  have k0 := K21.out.cell 0
  have k1 := K21.out.cell 1
  have k2 := K21.out.cell 2
  simp only [List.getElem?_toArray, List.getElem?_cons_zero, List.getElem?_cons_succ] at k0 k1 k2
  go_wp2_with fail
  refine (same_any h A7 A c7 c _ (own_obs P21.out QM7.out) (HS.out.below HB21.out) HF.out).mono ?_
  rintro e w22 ⟨rfl, hb⟩
  clear x0 x1 x2 g0 g1 g2 k0 k1 k2
  have HB22 := hid (then_w HB21.out hb)
  have HX22 := hid (HX21.out.later hb)
  have G22 := hid (G21.out.later hb)
  have K22 := hid (K21.out.later hb)
  have Q22 := hid (Q21.out.later hb)
  have P22 := hid (P21.out.later hb)
  clear hb
  clear HB21 HX21 G21 K21 Q21 P21
  go_wp2_with fail
  go_ret
  exact ⟨rfl, HB22.out⟩
end Go.Proofs.YtjhkdehngdmobaaGreat
