/- PrimKeeps returns true: for every heap, every number of a primitive, every receiver and all arguments that the row lets in, on every machine; no further condition. (With it: how its argument Call is opened; the law walked.) -/
import Derived.Test.YtkpfmbdkfgeboaaGreatOP0
import Derived.Test.YtkpfmbdkfgeboaaGreatKP13
import Derived.Test.YtkpfmbdkfgeboaaGreatPX13
import Derived.Test.YtkpfmbdkfgeboaaGreatN
import Derived.Test.YtkpfmbdkfgeboaaGreatR
import Derived.Test.YtkpfmbdkfgeboaaGreatRows
import Derived.Test.YtkpfmbdkfgeboaaGreatOW13
import Derived.Test.YtkpfmbdkfgeboaaGreatLP
import Derived.ProofKit
import Derived.OpenShut
namespace Go.Proofs.YtkpfmbdkfgeboaaGreat
open Go.ChangeShapes Go.WideShapes Go.RowKit Go.Deep Go.Joins
set_option maxRecDepth 100000
theorem cells_call13 : Tryz.prog.cellsOf 27 = 3 := by kernel_rfl
theorem cells_ints13 : Tryz.prog.cellsOf 25 = 1 := by kernel_rfl
theorem array3_13 {α : Type} {a : Array α} (h : a.size = 3) : ∃ x y z, a = #[x, y, z] := by
  obtain ⟨l⟩ := a
  match l, h with
  | [x, y, z], _ => exact ⟨x, y, z, rfl⟩
section
variable {H : Type} {enc : TypeId × Value → H} {w : World} {base : Nat} {spare : Nat → Bool} {held : Bool}
theorem open_call13 {r : Reach} {b0 : Nat} {v : Value} {d : DataW H} {p : List MemPlace} (hv : Value.okWide Tryz.prog w r b0 27 v) (h : DataW.Trod enc Tryz.prog w base spare held 27 v d p) :
    ∃ (n s : Int) (xs : List Int) (R : Option Addr) (e : Nat), v = .agg #[.int .i64 n, .int .i64 s, .slice R xs.length e] ∧ IntsR w R xs ∧ xs.length ≤ 9223372036854775807 := by
  obtain ⟨cs, rfl, hsz⟩ := okWide_struct Tryz.underlying27 hv
  obtain ⟨v0, v1, v2, rfl⟩ := array3_13 (hsz.trans cells_call13)
  obtain ⟨fuel, hf⟩ := h
  obtain ⟨xs, n, _, hx, hl, hxl, hf⟩ := DataW.trod_struct Tryz.underlying27 hf
  have h0 : DataW.trod enc Tryz.prog w base spare held n 3 (([v0, v1, v2].drop 0).take (Tryz.prog.cellsOf 3)) = xs[0]? := hf 0 _ rfl
  have h1 : DataW.trod enc Tryz.prog w base spare held n 3 (([v0, v1, v2].drop 1).take (Tryz.prog.cellsOf 3)) = xs[1]? := hf 1 _ rfl
  have h2 : DataW.trod enc Tryz.prog w base spare held n 25 (([v0, v1, v2].drop 2).take (Tryz.prog.cellsOf 25)) = xs[2]? := hf 2 _ rfl
  have hi : ∀ i (hi : i < 3), xs[i]? = some (xs[i]'(by rw [hxl]; exact hi)) := fun i hi => List.getElem?_eq_getElem _
  simp only [cells3, cells_ints13, List.drop_zero, List.drop_succ_cons, List.take_succ_cons, List.take_zero] at h0 h1 h2
  rw [hi 0 (by omega)] at h0
  rw [hi 1 (by omega)] at h1
  rw [hi 2 (by omega)] at h2
  obtain ⟨a0, e0, _⟩ := DataW.trod_int Tryz.underlying3 h0
  obtain ⟨a1, e1, _⟩ := DataW.trod_int Tryz.underlying3 h1
  obtain ⟨S, e, zs, e2, j1, -, -, j4⟩ := open_ints_r h2
  simp only [List.cons.injEq, and_true] at e0 e1
  subst e0 e1
  first | subst e2 | (simp only [List.cons.injEq, and_true] at e2; subst e2)
  exact ⟨a0, a1, zs, S, e, rfl, j1, j4⟩
end
end Go.Proofs.YtkpfmbdkfgeboaaGreat
namespace Go.Proofs.YtkpfmbdkfgeboaaGreat
open Go.RowKit Flt
set_option maxRecDepth 100000
set_option maxHeartbeats 4000000 in
theorem primkeeps_any13 (h : Hp) (num s : Int) (args : List Int) (SA : Option Addr) (da : Nat) (A : Option Addr) (c : Nat) (w : World) (hs : ObsR w A h.objs) (fit : h.Fit) (wd : ∀ o ∈ h.objs, In64 o.bits) (hsa : IntsR w SA args) (hal : args.length ≤ 9223372036854775807) :
    Calls Tryz.prog 4 #[.agg #[.slice A h.objs.length c, .int .i64 h.cap, .int .i64 h.last], .agg #[.int .i64 num, .int .i64 s, .slice SA args.length da]] w fun e w' => e = .returned (.bool true) ∧ Below w.heap.size w w' := by
  have HSA := hid hsa
  have HAL := hid hal
  clear hsa hal
  obtain ⟨w0, hw0⟩ : ∃ w0, w0 = (w.alloc (.cells #[Value.slice A h.objs.length c, Value.int .i64 h.cap, Value.int .i64 h.last] 24)).alloc (.cells #[.int .i64 num, .int .i64 s, .slice SA args.length da] 27) := ⟨_, rfl⟩
  have HB0 : Hid (Below w.heap.size w w0) := by show Below _ _ _; rw [hw0]; exact below_alloc2 w _ _
  have HX0 : Hid (Lies w0 w.heap.size 24 #[Value.slice A h.objs.length c, Value.int .i64 h.cap, Value.int .i64 h.last]) := by show Lies _ _ _ _; rw [hw0]; exact ((Lies.new w _ _).alloc _)
  have HK0 : Hid (Lies w0 (w.heap.size + 1) 27 #[.int .i64 num, .int .i64 s, .slice SA args.length da]) := by
    show Lies _ _ _ _
    have := Lies.new (w.alloc (.cells #[Value.slice A h.objs.length c, Value.int .i64 h.cap, Value.int .i64 h.last] 24)) 27 #[.int .i64 num, .int .i64 s, .slice SA args.length da]
    rw [hw0]
    simpa [Hid] using this
  have HS := hid hs
  have HF := hid fit
  have HWD := hid wd
  clear hs fit wd
  go_enter Tryz.func4, Tryz.ntmps4
  go_upto_region 1 with fail
  rw [← hw0]
  clear hw0
  go_wp2_with fail
  refine (fixed13_any _).mono ?_
  rintro e w1 ⟨rfl, hb⟩
  have HB1 := hid (then_w HB0.out hb)
  have HX1 := hid (HX0.out.later hb)
  have HK1 := hid (HK0.out.later hb)
  clear hb
  clear HB0 HX0 HK0
  have x0 := HX1.out.cell 0
  have x1 := HX1.out.cell 1
  have x2 := HX1.out.cell 2
  simp only [List.getElem?_toArray, List.getElem?_cons_zero, List.getElem?_cons_succ] at x0 x1 x2
  have k0 := HK1.out.cell 0
  have k1 := HK1.out.cell 1
  have k2 := HK1.out.cell 2
  simp only [List.getElem?_toArray, List.getElem?_cons_zero, List.getElem?_cons_succ] at k0 k1 k2
  go_wp2_with fail
  refine (small_ok h A c _ (HS.out.below HB1.out) HF.out).mono ?_
  rintro e w2 ⟨sb, rfl, hb⟩
  clear x0 x1 x2 k0 k1 k2
  have HB2 := hid (then_w HB1.out hb)
  have HX2 := hid (HX1.out.later hb)
  have HK2 := hid (HK1.out.later hb)
  clear hb
  clear HB1 HX1 HK1
  cases sb
  · have x0 := HX2.out.cell 0
    have x1 := HX2.out.cell 1
    have x2 := HX2.out.cell 2
    simp only [List.getElem?_toArray, List.getElem?_cons_zero, List.getElem?_cons_succ] at x0 x1 x2
    have k0 := HK2.out.cell 0
    have k1 := HK2.out.cell 1
    have k2 := HK2.out.cell 2
    simp only [List.getElem?_toArray, List.getElem?_cons_zero, List.getElem?_cons_succ] at k0 k1 k2
    go_wp2_with fail
    refine (fixed13_any _).mono ?_
    rintro e w3 ⟨rfl, hb⟩
    clear x0 x1 x2 k0 k1 k2
    have HB3 := hid (then_w HB2.out hb)
    have HX3 := hid (HX2.out.later hb)
    have HK3 := hid (HK2.out.later hb)
    clear hb
    clear HB2 HX2 HK2
    go_wp2_with fail
    go_ret
    exact ⟨rfl, HB3.out⟩
  by_cases h60 : h.objs.length ≤ 60
  case neg =>
    have hI60 : (60 : Int) < (h.objs.length : Int) := by omega
    have x0 := HX2.out.cell 0
    have x1 := HX2.out.cell 1
    have x2 := HX2.out.cell 2
    simp only [List.getElem?_toArray, List.getElem?_cons_zero, List.getElem?_cons_succ] at x0 x1 x2
    have k0 := HK2.out.cell 0
    have k1 := HK2.out.cell 1
    have k2 := HK2.out.cell 2
    simp only [List.getElem?_toArray, List.getElem?_cons_zero, List.getElem?_cons_succ] at k0 k1 k2
    go_wp2_with fail
    refine (fixed13_any _).mono ?_
    rintro e w3 ⟨rfl, hb⟩
    clear x0 x1 x2 k0 k1 k2
    have HB3 := hid (then_w HB2.out hb)
    have HX3 := hid (HX2.out.later hb)
    have HK3 := hid (HK2.out.later hb)
    clear hb
    clear HB2 HX2 HK2
    go_wp2_with fail
    go_ret
    exact ⟨rfl, HB3.out⟩
  have hI60 : ¬ (60 : Int) < (h.objs.length : Int) := by omega
  by_cases h10 : args.length ≤ 10
  case neg =>
    have hI10 : (10 : Int) < (args.length : Int) := by omega
    have x0 := HX2.out.cell 0
    have x1 := HX2.out.cell 1
    have x2 := HX2.out.cell 2
    simp only [List.getElem?_toArray, List.getElem?_cons_zero, List.getElem?_cons_succ] at x0 x1 x2
    have k0 := HK2.out.cell 0
    have k1 := HK2.out.cell 1
    have k2 := HK2.out.cell 2
    simp only [List.getElem?_toArray, List.getElem?_cons_zero, List.getElem?_cons_succ] at k0 k1 k2
    go_wp2_with fail
    refine (fixed13_any _).mono ?_
    rintro e w3 ⟨rfl, hb⟩
    clear x0 x1 x2 k0 k1 k2
    have HB3 := hid (then_w HB2.out hb)
    have HX3 := hid (HX2.out.later hb)
    have HK3 := hid (HK2.out.later hb)
    clear hb
    clear HB2 HX2 HK2
    go_wp2_with fail
    go_ret
    exact ⟨rfl, HB3.out⟩
  have hI10 : ¬ (10 : Int) < (args.length : Int) := by omega
  have x0 := HX2.out.cell 0
  have x1 := HX2.out.cell 1
  have x2 := HX2.out.cell 2
  simp only [List.getElem?_toArray, List.getElem?_cons_zero, List.getElem?_cons_succ] at x0 x1 x2
  have k0 := HK2.out.cell 0
  have k1 := HK2.out.cell 1
  have k2 := HK2.out.cell 2
  simp only [List.getElem?_toArray, List.getElem?_cons_zero, List.getElem?_cons_succ] at k0 k1 k2
  go_wp2_with fail
  refine (rmay_any h A c _ (HS.out.below HB2.out) HF.out).mono ?_
  rintro e w3 ⟨rfl, hb⟩
  clear x0 x1 x2 k0 k1 k2
  have HB3 := hid (then_w HB2.out hb)
  have HX3 := hid (HX2.out.later hb)
  have HK3 := hid (HK2.out.later hb)
  clear hb
  clear HB2 HX2 HK2
  cases hm : mayB h
  · clear hm
    have x0 := HX3.out.cell 0
    have x1 := HX3.out.cell 1
    have x2 := HX3.out.cell 2
    simp only [List.getElem?_toArray, List.getElem?_cons_zero, List.getElem?_cons_succ] at x0 x1 x2
    have k0 := HK3.out.cell 0
    have k1 := HK3.out.cell 1
    have k2 := HK3.out.cell 2
    simp only [List.getElem?_toArray, List.getElem?_cons_zero, List.getElem?_cons_succ] at k0 k1 k2
    go_wp2_with fail
    refine (fixed13_any _).mono ?_
    rintro e w4 ⟨rfl, hb⟩
    clear x0 x1 x2 k0 k1 k2
    have HB4 := hid (then_w HB3.out hb)
    have HX4 := hid (HX3.out.later hb)
    have HK4 := hid (HK3.out.later hb)
    clear hb
    clear HB3 HX3 HK3
    go_wp2_with fail
    go_ret
    exact ⟨rfl, HB4.out⟩
  have HM := hid hm
  clear hm
  by_cases h12 : 12 ≤ h.objs.length
  case neg =>
    have hI12 : (h.objs.length : Int) < 12 := by omega
    have x0 := HX3.out.cell 0
    have x1 := HX3.out.cell 1
    have x2 := HX3.out.cell 2
    simp only [List.getElem?_toArray, List.getElem?_cons_zero, List.getElem?_cons_succ] at x0 x1 x2
    have k0 := HK3.out.cell 0
    have k1 := HK3.out.cell 1
    have k2 := HK3.out.cell 2
    simp only [List.getElem?_toArray, List.getElem?_cons_zero, List.getElem?_cons_succ] at k0 k1 k2
    go_wp2_with fail
    refine (fixed13_any _).mono ?_
    rintro e w4 ⟨rfl, hb⟩
    clear x0 x1 x2 k0 k1 k2
    have HB4 := hid (then_w HB3.out hb)
    have HX4 := hid (HX3.out.later hb)
    have HK4 := hid (HK3.out.later hb)
    clear hb
    clear HB3 HX3 HK3
    go_wp2_with fail
    go_ret
    exact ⟨rfl, HB4.out⟩
  have hI12 : ¬ (h.objs.length : Int) < 12 := by omega
  have H12 := hid h12
  have H60 := hid h60
  obtain ⟨rr, hrr⟩ : ∃ r : Rs, r = do13 h num s args := ⟨_, rfl⟩
  have HRR := hid hrr
  have G := hid (keeps13 (num := num) (s := s) (args := args) HM.out H12.out HWD.out)
  rw [← hrr] at G
  clear hrr
  have x0 := HX3.out.cell 0
  have x1 := HX3.out.cell 1
  have x2 := HX3.out.cell 2
  simp only [List.getElem?_toArray, List.getElem?_cons_zero, List.getElem?_cons_succ] at x0 x1 x2
  have k0 := HK3.out.cell 0
  have k1 := HK3.out.cell 1
  have k2 := HK3.out.cell 2
  simp only [List.getElem?_toArray, List.getElem?_cons_zero, List.getElem?_cons_succ] at k0 k1 k2
  go_wp2_with fail
  refine (cdo_any13 h num s args SA da A c _ (HS.out.below HB3.out) HF.out (HSA.out.below HB3.out) HAL.out HWD.out).mono ?_
  rintro e w4 ⟨A2, c2, rfl, ⟨l2, ho2, hm2⟩, hb⟩
  clear x0 x1 x2 k0 k1 k2
  rw [← HRR.out] at hm2 ⊢
  clear HRR hI60 hI12 hI10 h60 h12 h10
  have HB4 := hid (then_w HB3.out hb)
  have HX4 := hid (HX3.out.later hb)
  have HK4 := hid (HK3.out.later hb)
  clear hb
  clear HB3 HX3 HK3
  rcases G.out with hk | hg
  case inl =>
    subst hk
    have QM2 : Hid (l2.map (·.o) = zeroH.objs) := hm2
    clear hm2 G
    have Q4 := hid ho2
    clear ho2
    go_upto_region 4 with fail
    obtain ⟨w5, hw⟩ : ∃ x, x = w4.alloc (.cells #[.slice A2 0 c2, .int .i64 0, .int .i64 0] 24) := ⟨_, rfl⟩
    obtain ⟨bg, hbx⟩ : ∃ x, x = w4.heap.size := ⟨_, rfl⟩
    have G5 : Hid (Lies w5 bg 24 #[.slice A2 0 c2, .int .i64 0, .int .i64 0]) := by show Lies _ _ _ _; rw [hw, hbx]; exact Lies.new _ _ _
    have hb : Below w4.heap.size w4 w5 := by rw [hw]; exact below_alloc _ _
    rw [← hw, ← hbx]
    have ne_HX_G : Hid (w.heap.size ≠ bg) := by show _ ≠ _; rw [hbx]; exact Nat.ne_of_lt HX4.out.lt
    have ne_HK_G : Hid ((w.heap.size + 1) ≠ bg) := by show _ ≠ _; rw [hbx]; exact Nat.ne_of_lt HK4.out.lt
    have at_G : Hid (bg = w4.heap.size) := hbx
    have le_HB_G : Hid (w.heap.size ≤ bg) := by show _ ≤ _; rw [hbx]; exact HB4.out.size
    clear hbx hw
    have HB5 := hid (then_w HB4.out hb)
    have HX5 := hid (HX4.out.later hb)
    have HK5 := hid (HK4.out.later hb)
    have Q5 := hid (Q4.out.later hb)
    clear hb
    clear HB4 HX4 HK4 Q4
    have g0 := G5.out.cell 0
    have g1 := G5.out.cell 1
    have g2 := G5.out.cell 2
    simp only [List.getElem?_toArray, List.getElem?_cons_zero, List.getElem?_cons_succ] at g0 g1 g2
    go_wp2_with fail
    refine (same_any zeroH A2 none c2 0 _ (own_obs Q5.out QM2.out) (fun h => absurd h (by decide)) ⟨by decide, fun o ho => by cases ho⟩).mono ?_
    rintro e w6 ⟨rfl, hb⟩
    clear g0 g1 g2
    have HB6 := hid (then_w HB5.out hb)
    have HX6 := hid (HX5.out.later hb)
    have HK6 := hid (HK5.out.later hb)
    have G6 := hid (G5.out.later hb)
    have Q6 := hid (Q5.out.later hb)
    clear hb
    clear HB5 HX5 HK5 G5 Q5
    go_wp2_with fail
    go_ret
    exact ⟨rfl, HB6.out⟩
  by_cases he : rr.2.2 = 0
  case neg =>
    rcases hg.bad he with hk | ⟨hk, hcap⟩
    · subst hk
      have QM2 : Hid (l2.map (·.o) = h.objs) := hm2
      clear hm2 G he hg
      have Q4 := hid ho2
      clear ho2
      go_upto_region 4 with fail
      obtain ⟨w5, hw⟩ : ∃ x, x = w4.alloc (.cells #[.slice A2 h.objs.length c2, .int .i64 h.cap, .int .i64 h.last] 24) := ⟨_, rfl⟩
      obtain ⟨bg, hbx⟩ : ∃ x, x = w4.heap.size := ⟨_, rfl⟩
      have G5 : Hid (Lies w5 bg 24 #[.slice A2 h.objs.length c2, .int .i64 h.cap, .int .i64 h.last]) := by show Lies _ _ _ _; rw [hw, hbx]; exact Lies.new _ _ _
      have hb : Below w4.heap.size w4 w5 := by rw [hw]; exact below_alloc _ _
      rw [← hw, ← hbx]
      have ne_HX_G : Hid (w.heap.size ≠ bg) := by show _ ≠ _; rw [hbx]; exact Nat.ne_of_lt HX4.out.lt
      have ne_HK_G : Hid ((w.heap.size + 1) ≠ bg) := by show _ ≠ _; rw [hbx]; exact Nat.ne_of_lt HK4.out.lt
      have at_G : Hid (bg = w4.heap.size) := hbx
      have le_HB_G : Hid (w.heap.size ≤ bg) := by show _ ≤ _; rw [hbx]; exact HB4.out.size
      clear hbx hw
      have HB5 := hid (then_w HB4.out hb)
      have HX5 := hid (HX4.out.later hb)
      have HK5 := hid (HK4.out.later hb)
      have Q5 := hid (Q4.out.later hb)
      clear hb
      clear HB4 HX4 HK4 Q4
      have x0 := HX5.out.cell 0
      have x1 := HX5.out.cell 1
      have x2 := HX5.out.cell 2
      simp only [List.getElem?_toArray, List.getElem?_cons_zero, List.getElem?_cons_succ] at x0 x1 x2
      have g0 := G5.out.cell 0
      have g1 := G5.out.cell 1
      have g2 := G5.out.cell 2
      simp only [List.getElem?_toArray, List.getElem?_cons_zero, List.getElem?_cons_succ] at g0 g1 g2
      go_wp2_with fail
      refine (same_any h A2 A c2 c _ (own_obs Q5.out QM2.out) (HS.out.below HB5.out) HF.out).mono ?_
      rintro e w6 ⟨rfl, hb⟩
      clear x0 x1 x2 g0 g1 g2
      have HB6 := hid (then_w HB5.out hb)
      have HX6 := hid (HX5.out.later hb)
      have HK6 := hid (HK5.out.later hb)
      have G6 := hid (G5.out.later hb)
      have Q6 := hid (Q5.out.later hb)
      clear hb
      clear HB5 HX5 HK5 G5 Q5
      go_wp2_with fail
      go_ret
      exact ⟨rfl, HB6.out⟩
    · subst hk
      have QM2 : Hid (l2.map (·.o) = h.objs) := hm2
      clear hm2 G he hg
      have HCAP := hid hcap
      clear hcap
      have Q4 := hid ho2
      clear ho2
      go_upto_region 4 with fail
      obtain ⟨w5, hw⟩ : ∃ x, x = w4.alloc (.cells #[.slice A2 h.objs.length c2, .int .i64 h.cap, .int .i64 h.last] 24) := ⟨_, rfl⟩
      obtain ⟨bg, hbx⟩ : ∃ x, x = w4.heap.size := ⟨_, rfl⟩
      have G5 : Hid (Lies w5 bg 24 #[.slice A2 h.objs.length c2, .int .i64 h.cap, .int .i64 h.last]) := by show Lies _ _ _ _; rw [hw, hbx]; exact Lies.new _ _ _
      have hb : Below w4.heap.size w4 w5 := by rw [hw]; exact below_alloc _ _
      rw [← hw, ← hbx]
      have ne_HX_G : Hid (w.heap.size ≠ bg) := by show _ ≠ _; rw [hbx]; exact Nat.ne_of_lt HX4.out.lt
      have ne_HK_G : Hid ((w.heap.size + 1) ≠ bg) := by show _ ≠ _; rw [hbx]; exact Nat.ne_of_lt HK4.out.lt
      have at_G : Hid (bg = w4.heap.size) := hbx
      have le_HB_G : Hid (w.heap.size ≤ bg) := by show _ ≤ _; rw [hbx]; exact HB4.out.size
      clear hbx hw
      have HB5 := hid (then_w HB4.out hb)
      have HX5 := hid (HX4.out.later hb)
      have HK5 := hid (HK4.out.later hb)
      have Q5 := hid (Q4.out.later hb)
      clear hb
      clear HB4 HX4 HK4 Q4
      have x0 := HX5.out.cell 0
      have x1 := HX5.out.cell 1
      have x2 := HX5.out.cell 2
      simp only [List.getElem?_toArray, List.getElem?_cons_zero, List.getElem?_cons_succ] at x0 x1 x2
      have g0 := G5.out.cell 0
      have g1 := G5.out.cell 1
      have g2 := G5.out.cell 2
      simp only [List.getElem?_toArray, List.getElem?_cons_zero, List.getElem?_cons_succ] at g0 g1 g2
      go_wp2_with fail
      refine (same_any h A2 A c2 c _ (own_obs Q5.out QM2.out) (HS.out.below HB5.out) HF.out).mono ?_
      rintro e w6 ⟨rfl, hb⟩
      clear x0 x1 x2 g0 g1 g2
      have HB6 := hid (then_w HB5.out hb)
      have HX6 := hid (HX5.out.later hb)
      have HK6 := hid (HK5.out.later hb)
      have G6 := hid (G5.out.later hb)
      have Q6 := hid (Q5.out.later hb)
      clear hb
      clear HB5 HX5 HK5 G5 Q5
      have hcap := HCAP.out
      have hcap2 : decide ((h.objs.length : Int) = h.cap) = true := decide_eq_true hcap
      have x0 := HX6.out.cell 0
      have x1 := HX6.out.cell 1
      have x2 := HX6.out.cell 2
      simp only [List.getElem?_toArray, List.getElem?_cons_zero, List.getElem?_cons_succ] at x0 x1 x2
      have g0 := G6.out.cell 0
      have g1 := G6.out.cell 1
      have g2 := G6.out.cell 2
      simp only [List.getElem?_toArray, List.getElem?_cons_zero, List.getElem?_cons_succ] at g0 g1 g2
      go_wp2_with fail
      go_ret
      exact ⟨rfl, HB6.out⟩
  have gm := hg.may he
  have gh := hg.has he
  have gl := hg.len he
  have gc := hg.cap he
  obtain ⟨g, v, e⟩ := rr
  have he : e = 0 := he
  subst he
  have GM : Hid (mayB g = true) := gm
  have GH : Hid (hasB g.objs.length v = true) := gh
  have GL : Hid (g.objs.length = h.objs.length ∨ g.objs.length = h.objs.length + 1) := gl
  have GC : Hid (g.cap = h.cap) := gc
  have QM2 : Hid (l2.map (·.o) = g.objs) := hm2
  clear hm2 G hg gm gh gl gc
  have Q4 := hid ho2
  clear ho2
  go_upto_region 4 with fail
  obtain ⟨w5, hw⟩ : ∃ x, x = w4.alloc (.cells #[.slice A2 g.objs.length c2, .int .i64 g.cap, .int .i64 g.last] 24) := ⟨_, rfl⟩
  obtain ⟨bg, hbx⟩ : ∃ x, x = w4.heap.size := ⟨_, rfl⟩
  have G5 : Hid (Lies w5 bg 24 #[.slice A2 g.objs.length c2, .int .i64 g.cap, .int .i64 g.last]) := by show Lies _ _ _ _; rw [hw, hbx]; exact Lies.new _ _ _
  have hb : Below w4.heap.size w4 w5 := by rw [hw]; exact below_alloc _ _
  rw [← hw, ← hbx]
  have ne_HX_G : Hid (w.heap.size ≠ bg) := by show _ ≠ _; rw [hbx]; exact Nat.ne_of_lt HX4.out.lt
  have ne_HK_G : Hid ((w.heap.size + 1) ≠ bg) := by show _ ≠ _; rw [hbx]; exact Nat.ne_of_lt HK4.out.lt
  have at_G : Hid (bg = w4.heap.size) := hbx
  have le_HB_G : Hid (w.heap.size ≤ bg) := by show _ ≤ _; rw [hbx]; exact HB4.out.size
  clear hbx hw
  have HB5 := hid (then_w HB4.out hb)
  have HX5 := hid (HX4.out.later hb)
  have HK5 := hid (HK4.out.later hb)
  have Q5 := hid (Q4.out.later hb)
  clear hb
  clear HB4 HX4 HK4 Q4
  have g_0 := G5.out.cell 0
  have g_1 := G5.out.cell 1
  have g_2 := G5.out.cell 2
  simp only [List.getElem?_toArray, List.getElem?_cons_zero, List.getElem?_cons_succ] at g_0 g_1 g_2
  go_wp2_with fail
  refine (rmay_any g A2 c2 _ (own_obs Q5.out QM2.out) (may_fit GM.out)).mono ?_
  rintro e w6 ⟨rfl, hb⟩
  clear g_0 g_1 g_2
  rw [GM.out]
  have HB6 := hid (then_w HB5.out hb)
  have HX6 := hid (HX5.out.later hb)
  have HK6 := hid (HK5.out.later hb)
  have G6 := hid (G5.out.later hb)
  have Q6 := hid (Q5.out.later hb)
  clear hb
  clear HB5 HX5 HK5 G5 Q5
  have g_0 := G6.out.cell 0
  have g_1 := G6.out.cell 1
  have g_2 := G6.out.cell 2
  simp only [List.getElem?_toArray, List.getElem?_cons_zero, List.getElem?_cons_succ] at g_0 g_1 g_2
  go_wp2_with fail
  refine (rhas_any g v A2 c2 _).mono ?_
  rintro e w7 ⟨rfl, hb⟩
  clear g_0 g_1 g_2
  rw [GH.out]
  have HB7 := hid (then_w HB6.out hb)
  have HX7 := hid (HX6.out.later hb)
  have HK7 := hid (HK6.out.later hb)
  have G7 := hid (G6.out.later hb)
  have Q7 := hid (Q6.out.later hb)
  clear hb
  clear HB6 HX6 HK6 G6 Q6
  have hlo : (h.objs.length : Int) ≤ (g.objs.length : Int) := by have := GL.out; omega
  have hhi : (g.objs.length : Int) ≤ (h.objs.length : Int) + 1 := by have := GL.out; omega
  have hwr : IntKind.i64.wrap ((h.objs.length : Int) + 1) = (h.objs.length : Int) + 1 := IntWalk.i64_in _ (by have := H60.out; omega)
  have hcp := GC.out
  have x0 := HX7.out.cell 0
  have x1 := HX7.out.cell 1
  have x2 := HX7.out.cell 2
  simp only [List.getElem?_toArray, List.getElem?_cons_zero, List.getElem?_cons_succ] at x0 x1 x2
  have g_0 := G7.out.cell 0
  have g_1 := G7.out.cell 1
  have g_2 := G7.out.cell 2
  simp only [List.getElem?_toArray, List.getElem?_cons_zero, List.getElem?_cons_succ] at g_0 g_1 g_2
  go_wp2_with fail
  go_ret
  exact ⟨rfl, HB7.out⟩
end Go.Proofs.YtkpfmbdkfgeboaaGreat
namespace Go.Proofs.YtkpfmbdkfgeboaaGreat
open Go.ChangeShapes Go.WideShapes Go.ChangeAt Go.RowKit
set_option maxRecDepth 100000
namespace fnPrimKeeps
theorem own : ownKnob Tryz.prog.godebug = none := by kernel_rfl
theorem laidOut : laidOutB Tryz.prog = true := by kernel_rfl
theorem lifted (os : Os) (started : os.Started) (H : Type) (enc : TypeId × Value → H) :
    ReturnsInHanded {} Tryz.checked os 4 .any (Rows.primKeepsSpec.pre6 enc Tryz.prog Tryz.f4 Rows.primKeepsRow.domain false) (Rows.primKeepsSpec.post enc Tryz.prog Tryz.f4 false true false false) := by
  refine returnsInHanded_of_change (C := Tryz.checked) own started (by kernel_rfl) Tryz.func4
    (ChangeSpec.witness6 (enc := enc) (C := Tryz.checked) false ⟨#[], #[.agg #[.slice none 0 0, .int .i64 0, .int .i64 0], .agg #[.int .i64 0, .int .i64 0, .slice none 0 0]], []⟩ 8 (by kernel_rfl) (by kernel_rfl) (by kernel_rfl) (by kernel_rfl)) ?_
  intro W base args ds gs before hval0 hW hcnd _
  have hval : ∀ (j : Nat) t v, Tryz.f4.params[j]? = some t → args[j]? = some v → Value.okWide Tryz.prog W .any base t v := hval0
  have hW' := hW
  obtain ⟨p, q, hA0, hV, rfl, hfz, hnd⟩ := hW
  have hA : DataW.TrodAll enc Tryz.prog W 0 (fun _ => true) true Tryz.f4.params.toList args.toList ds p := hA0
  rw [Tryz.params4] at hA hval
  obtain ⟨v0, v1, d0, d1, p0, p1, rfl, rfl, rfl, h0, h1⟩ := trodAll_two hA
  obtain ⟨rfl, rfl⟩ := trodVars_none hV
  obtain ⟨hp0, A0, c0, rfl, ob0, ft0, wd0⟩ := open_heap13 (hval 0 24 v0 rfl rfl) h0
  obtain ⟨n1, s1, xs1, R1, e1, rfl, ob1, ft1⟩ := open_call13 (hval 1 27 v1 rfl rfl) h1
  clear hA0 hval0
  simp only [List.append_nil] at hW'
  refine (primkeeps_any13 hp0 n1 s1 xs1 R1 e1 A0 c0 W ob0 ft0 wd0 ob1 ft1).mono fun e W' ⟨he, hb⟩ => ?_
  subst he
  exact ⟨_, rfl, law_post laidOut (by kernel_rfl) rfl (by kernel_rfl) Tryz.underlying4 hW' rfl hb⟩
end fnPrimKeeps
theorem primKeeps_holds : Rows.PrimKeepsSaid :=
  OpenClaim.holds_of_wide 4 Tryz.f4 rfl rfl rfl rfl rfl rfl rfl ⟨rfl, rfl, rfl, rfl, rfl⟩ rfl rfl rfl rfl rfl (by kernel_rfl) Tryz.func4 (by kernel_rfl)
    (of_decide_eq_true (by kernel_rfl)) (by unfold Func.isWrapper; first | (rw [if_pos (by decide +kernel)]; kernel_rfl) | (rw [if_neg (by decide +kernel)]; exact ⟨rfl, rfl⟩))
    (fun os started H enc _ => fnPrimKeeps.lifted os started H enc)
end Go.Proofs.YtkpfmbdkfgeboaaGreat
