/- The document: List. -/
import Derived.Test.YtkpfmbdkfgeboaaSM14
namespace Go.Proofs.Ytkpfmbdkfgeboaa
open Go.RowKit
set_option maxRecDepth 100000
theorem own_nil14 (w : World) : (w.alloc (.cells #[] 3)).ownsRow w.heap.size 3 1 (.slice (some ⟨w.heap.size, 0, none⟩) 0 0) 0 (([] : List Int).map (Value.int .i64)) :=
  ⟨rfl, .inr ⟨w.heap.size, 0, #[], rfl, Nat.le_refl _, by show (w.heap.push _)[w.heap.size]? = _; simp, Nat.le_refl _, by unfold maxLen; omega, rfl, rfl⟩⟩
theorem own_base14 {w : World} {base B : Nat} {e : TypeId} {size n : Nat} {v : Value} {xs : List Value} (h : w.ownsRow base e size v n xs) (hB : B ≤ base) : w.ownsRow B e size v n xs := by
  refine ⟨h.1, ?_⟩
  rcases h.2 with hn | ⟨g, cap, cur, hv, hg, hr⟩
  · exact .inl hn
  · exact .inr ⟨g, cap, cur, hv, Nat.le_trans hB hg, hr⟩
set_option maxHeartbeats 4000000 in
theorem rlist_any14 (h : Hp) (f : Int) (A : Option Addr) (c : Nat) (w : World) (hs : ObsR w A h.objs) (fit : h.Fit) (hm : mayB h = true) :
    Calls Try.prog 8 #[.agg #[.slice A h.objs.length c, .int .i64 h.cap, .int .i64 h.last], .int .i64 f] w (Ls14 w (lr14 h f)) := by
  obtain ⟨w0, hw0⟩ : ∃ w0, w0 = w.alloc (.cells #[Value.slice A h.objs.length c, Value.int .i64 h.cap, Value.int .i64 h.last] 24) := ⟨_, rfl⟩
  have HB0 : Hid (Below w.heap.size w w0) := by show Below _ _ _; rw [hw0]; exact below_alloc _ _
  have HX0 : Hid (Lies w0 w.heap.size 24 #[Value.slice A h.objs.length c, Value.int .i64 h.cap, Value.int .i64 h.last]) := by
    show Lies _ _ _ _
    rw [hw0]; exact Lies.new _ _ _
  have HS := hid hs
  have HF := hid fit
  obtain ⟨r, hr⟩ : ∃ r, r = lr14 h f := ⟨_, rfl⟩
  rw [← hr]
  have HR := hid hr
  clear hs fit hr
  go_enter Try.func8, Try.ntmps8
  go_upto_region 1 with fail
  rw [← hw0]
  clear hw0
  obtain ⟨x0, x1, x2⟩ := HX0.out.c3
  go_wp2_with fail
  refine (rmay_any h A c w0 (HS.out.below HB0.out) HF.out).mono ?_
  rintro e w1 ⟨rfl, hb⟩
  have HB1 := hid (HB0.out.trans (hb.mono HB0.out.size))
  have HX1 := hid (HX0.out.later hb)
  clear hb x0 x1 x2 HB0 HX0
  have HM := hid hm
  rw [hm]
  clear hm
  have HBA := hid (HB1.out.trans ((below_alloc w1 (.cells #[] 3)).mono HB1.out.size))
  have HXA := hid (HX1.out.alloc (.cells #[] 3))
  have HOA := hid (own_base14 (own_nil14 w1) HB1.out.size)
  go_wp2_with fail
  go_loopw [1, 6] (fun i s wr => ∃ (l : List Int) (S : Option Addr) (cs : Nat) (p : Int), i = .int .i64 p ∧ s = .slice S l.length cs ∧ Hid (Go14 h f l p) ∧ Hid (wr.ownsRow w.heap.size 3 1 (.slice S l.length cs) l.length (l.map (Value.int .i64))) ∧ Hid (Below w.heap.size w wr) ∧ Hid (Lies wr w.heap.size 24 #[Value.slice A h.objs.length c, Value.int .i64 h.cap, Value.int .i64 h.last])) (fun _ s _ => h.objs.length + 1 - len14 s)
  case atStart => exact ⟨[], _, _, f, rfl, rfl, Go14.start h f, HOA, HBA, HXA⟩
  case round =>
    rename World => w1
    obtain ⟨l, S, cs, p, rfl, rfl, HG, HO, HB, HX⟩ := hrel
    clear HB1 HX1
    have hll := len_le14 HG.out.nd HG.out.pc
    have hol := may_len HM.out
    have HLL := hid hll
    clear hll hol
    by_cases hp0 : p = 0
    · subst hp0
      have HR2 : Hid (r = (l, 0)) := by show _ = _; rw [HR.out]; exact lr_some14 HM.out HG.out.fin
      go_wp2_with fail
      refine bodyPost_ret (v := .tuple #[.slice S l.length cs, .int .i64 0]) (by simp [results, Try.results8, go_sem]) rfl ?_
      rw [HR2.out]
      exact ⟨S, cs, rfl, HO.out, HB.out⟩
    · have HP0 := hid hp0
      obtain ⟨x0, x1, x2⟩ := HX.out.c3
      go_wp2_with fail
      refine (rpc_any14 h p A c w w1 HS.out HB.out HF.out HM.out).mono ?_
      rintro e w2 ⟨rfl, hb⟩
      have HB2 := hid (then_w HB.out hb)
      have HX2 := hid (HX.out.later hb)
      have HO2 := hid (own_later HO.out hb)
      clear hb x0 x1 x2 HB HX HO
      cases hpc : pc14 h p
      · have DONE := hid (ls_nil14 141 HB2.out)
        have HR2 : Hid (r = ([], 141)) := by show _ = _; rw [HR.out]; exact lr_none14 HM.out (HG.out.bad HP0.out (.inl hpc))
        clear hpc
        go_wp2_with fail
        refine bodyPost_ret (v := .tuple #[.slice none 0 0, .int .i64 141]) (by simp [results, Try.results8, go_sem]) rfl ?_
        rw [HR2.out]
        exact DONE.out
      · have HPC := hid hpc
        clear hpc
        have HI2 := hid (own_ints HO2.out)
        have hl64 : l.length ≤ 9223372036854775807 := by have := HLL.out; have := may_len HM.out; omega
        go_wp2_with fail
        refine (rin_any14 l p S cs w2 HI2.out hl64).mono ?_
        rintro e w3 ⟨rfl, hb⟩
        have HB3 := hid (then_w HB2.out hb)
        have HX3 := hid (HX2.out.later hb)
        have HO3_ := hid (own_later HO2.out hb)
        clear hb
        by_cases hin : p ∈ l
        · have DONE := hid (ls_nil14 141 HB3.out)
          have HR2 : Hid (r = ([], 141)) := by show _ = _; rw [HR.out]; exact lr_none14 HM.out (HG.out.bad HP0.out (.inr hin))
          rw [decide_eq_true hin]
          clear hin
          go_wp2_with fail
          refine bodyPost_ret (v := .tuple #[.slice none 0 0, .int .i64 141]) (by simp [results, Try.results8, go_sem]) rfl ?_
          rw [HR2.out]
          exact DONE.out
        · rw [decide_eq_false hin]
          have HIN := hid hin
          have HG2 := hid (HG.out.next HP0.out HPC.out HIN.out)
          obtain ⟨q, hq⟩ : ∃ q, q = sl14 h p 0 := ⟨_, rfl⟩
          rw [← hq] at HG2
          clear hin hl64
          have HAL := hid (below_alloc w3 (.cells #[.int .i64 p] 3))
          have HO3 := hid (own_later HO3_.out HAL.out)
          have HN := hid (Lies.new w3 3 #[.int .i64 p])
          have hz := HB3.out.size
          have hz2 : w.heap.size ≤ (w3.alloc (.cells #[.int .i64 p] 3)).heap.size := by simp; omega
          have hl2 : l.length + 1 ≤ 300 := by have := HLL.out; have := may_len HM.out; omega
          go_wp2_with (at_builtin; refine wpList_append_one rfl (.tmp 22) (.tmp 24) rfl w.heap.size _ _ _ rfl HO3.out _ _ rfl HN.out (by omega) hz2 ?_)
          intro v' w4 h1 h2
          obtain ⟨S2, c2, rfl⟩ := own_form h1
          have h1 : w4.ownsRow w.heap.size 3 1 (.slice S2 (l ++ [p]).length c2) (l ++ [p]).length ((l ++ [p]).map (Value.int .i64)) := by
            rw [List.map_append, List.length_append]; exact h1
          have hb2 := HB3.out.trans ((HAL.out.mono hz).grown h2 hz2 (fun q hq => (HO3.out.lt q hq).1))
          have HX4 := hid (lies_grown14 h2 (HX3.out.later HAL.out) HO3.out (by decide))
          have HO4 := hid h1
          have HB4 := hid hb2
          have hlen : (l ++ [p]).length = l.length + 1 := by simp
          clear h1 h2 hb2 hz hz2
          rw [show l.length + 1 = (l ++ [p]).length from hlen.symm]
          obtain ⟨x0, x1, x2⟩ := HX4.out.c3
          have hsl : sls12 h p = (obAt h p).slots := slot_kind14 HM.out (pc_ref14 HPC.out).1 (fun e => by have := (pc_ref14 HPC.out).2; rw [e] at this; cases this)
          obtain ⟨a0, a1, a2, a3, h4⟩ := list4_14 (pc_ref14 HPC.out).2
          rw [h4] at hsl
          have hqa : q = a0 := by rw [hq]; unfold sl14; rw [h4]; rfl
          have HSL := hid hsl
          have HQA := hid hqa
          clear hq hsl hqa h4
          go_wp2_with fail
          refine (rslots_any12 h p A c w4 (HS.out.below HB4.out)).mono ?_
          rintro e w5 ⟨S5, d5, rfl, hin, -, hb⟩
          rw [HSL.out] at hin ⊢
          obtain ⟨bs, os, rfl, hbs, hcs⟩ := hin (by simp)
          have y0 := hcs 0 a0 rfl
          simp only [Nat.add_zero] at y0
          rw [← HQA.out] at y0
          have HB5 := hid (then_w HB4.out hb)
          have HX5 := hid (HX4.out.later hb)
          have HO5 := hid (own_later HO4.out hb)
          clear hcs hbs hin hb x0 x1 x2
          go_wp2_with fail
          go_roundw
          case rel => exact ⟨l ++ [p], S2, c2, q, rfl, by rw [hlen], HG2, HO5, HB5, HX5⟩
          case measure =>
            have := HLL.out
            simp [len14]
            omega
end Go.Proofs.Ytkpfmbdkfgeboaa
