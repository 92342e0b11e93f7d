/- proc.List. -/
import Derived.Test.YtkpfmbdkfgeboaaPD14
import Derived.Test.YtkpfmbdkfgeboaaAP
import Derived.Test.YtkpfmbdkfgeboaaG
import Derived.Test.YtkpfmbdkfgeboaaZS
namespace Go.Proofs.Ytkpfmbdkfgeboaa
open Go.RowKit
set_option maxRecDepth 100000
theorem contains_any14 (L : List Int) (A : Option Addr) (c : Nat) (x : Int) (w : World) (hs : IntsR w A L) (hl : L.length ≤ 9223372036854775807) :
    Calls Try.prog 40 #[.slice A L.length c, .int .i64 x] w fun e w' => e = .returned (.bool (decide (x ∈ L))) ∧ w' = w := by
  by_cases h0 : L.length = 0
  · obtain rfl : L = [] := List.length_eq_zero_iff.1 h0
    simpa using Try.slices_Contains_int_empty A c x w
  · obtain ⟨b, o, rfl, hb, hc⟩ := hs (by omega)
    have := Try.slices_Contains_int b o L.length c L x w (Nat.le_refl _) hl (fun j hj => hc j _ (by rw [List.getD_eq_getElem?_getD, List.getElem?_eq_getElem hj]; rfl))
    rw [List.take_length] at this
    simpa using this
theorem lies_grown14 {w w' : World} {g : Nat} {t : TypeId} {cs : Array Value} {base n : Nat} {v : Value} {xs : List Value} (hg : w.grownBy w' v.ownBlock) (h : Lies w g t cs) (ho : w.ownsRow base 3 1 v n xs) (ht : 3 ≠ t) : Lies w' g t cs :=
  (hg.block g h.lt (fun e => own_blk_ne ho h ht e.symm)).trans h
/-- a list of the call's own is told, and an error -/
def Ls14 (w : World) (r : List Int × Int) (e : Ending) (w' : World) : Prop :=
  ∃ S c, e = .returned (.tuple #[.slice S r.1.length c, .int .i64 r.2]) ∧ w'.ownsRow w.heap.size 3 1 (.slice S r.1.length c) r.1.length (r.1.map (Value.int .i64)) ∧ Below w.heap.size w w'
theorem ls_nil14 {w W : World} (en : Int) (hb : Below w.heap.size w W) : Ls14 w ([], en) (.returned (.tuple #[.slice none 0 0, .int .i64 en])) W := ⟨none, 0, rfl, World.ownsRow_nil _ _ _ _, hb⟩
theorem lr_arg14 {h : Hp} {f : Int} (hm : mayB h = false) : lr14 h f = ([], 1) := by unfold lr14; rw [if_pos hm]
theorem lr_none14 {h : Hp} {f : Int} (hm : mayB h = true) (e : ls14 h f = none) : lr14 h f = ([], 141) := by unfold lr14; rw [if_neg (by rw [hm]; decide), e]
theorem lr_some14 {h : Hp} {f : Int} {l : List Int} (hm : mayB h = true) (e : ls14 h f = some l) : lr14 h f = (l, 0) := by unfold lr14; rw [if_neg (by rw [hm]; decide), e]
def len14 : Value → Nat
  | .slice _ n _ => n
  | _ => 0
set_option maxHeartbeats 4000000 in
theorem plist_any14 (h : Hp) (f : Int) (A : Option Addr) (c : Nat) (w : World) (hs : ObsR w A h.objs) (fit : h.Fit) :
    Calls Try.prog 17 #[.agg #[.slice A h.objs.length c, .int .i64 h.cap, .int .i64 h.last], .int .i64 f] w (Ls14 w (lr14 h f)) := by
  obtain ⟨w0, hw0⟩ : ∃ w0, w0 = w.alloc (.cells #[Value.slice A h.objs.length c, Value.int .i64 h.cap, Value.int .i64 h.last] 24) := ⟨_, rfl⟩
  have HB0 : Hid (Below w.heap.size w w0) := by show Below _ _ _; rw [hw0]; exact below_alloc _ _
  have HX0 : Hid (Lies w0 w.heap.size 24 #[Value.slice A h.objs.length c, Value.int .i64 h.cap, Value.int .i64 h.last]) := by
    show Lies _ _ _ _
    rw [hw0]; exact Lies.new _ _ _
  have HS := hid hs
  have HF := hid fit
  obtain ⟨r, hr⟩ : ∃ r, r = lr14 h f := ⟨_, rfl⟩
  rw [← hr]
  have HR := hid hr
  clear hs fit hr
  go_enter Try.func17, Try.ntmps17
  go_upto_region 1 with fail
  rw [← hw0]
  clear hw0
  obtain ⟨x0, x1, x2⟩ := HX0.out.c3
  go_wp2_with fail
  refine (may_any h A c w0 (HS.out.below HB0.out) HF.out).mono ?_
  rintro e w1 ⟨rfl, hb⟩
  have HB1 := hid (HB0.out.trans (hb.mono HB0.out.size))
  have HX1 := hid (HX0.out.later hb)
  clear hb x0 x1 x2 HB0 HX0
  cases hm : mayB h
  · have DONE := hid (ls_nil14 1 HB1.out)
    have HR2 : Hid (r = ([], 1)) := by show _ = _; rw [HR.out]; exact lr_arg14 hm
    clear hm
    go_wp2_with fail
    refine bodyPost_ret (v := .tuple #[.slice none 0 0, .int .i64 1]) (by simp [results, Try.results17, go_sem]) rfl ?_
    rw [HR2.out]
    exact DONE.out
  · have HM := hid hm
    clear hm
    go_wp2_with fail
    go_loopw [6, 7] (fun s i wr => ∃ (l : List Int) (S : Option Addr) (cs : Nat) (p : Int), s = .slice S l.length cs ∧ i = .int .i64 p ∧ Hid (Go14 h f l p) ∧ Hid (wr.ownsRow w.heap.size 3 1 (.slice S l.length cs) l.length (l.map (Value.int .i64))) ∧ Hid (Below w.heap.size w wr) ∧ Hid (Lies wr w.heap.size 24 #[Value.slice A h.objs.length c, Value.int .i64 h.cap, Value.int .i64 h.last])) (fun s _ _ => h.objs.length + 1 - len14 s)
    case atStart => exact ⟨[], none, 0, f, rfl, rfl, Go14.start h f, World.ownsRow_nil _ _ _ _, HB1, HX1⟩
    case round =>
      rename World => w1
      obtain ⟨l, S, cs, p, rfl, rfl, HG, HO, HB, HX⟩ := hrel
      clear HB1 HX1
      have hll := len_le14 HG.out.nd HG.out.pc
      have hol := may_len HM.out
      have HLL := hid hll
      clear hll hol
      by_cases hp0 : p = 0
      · subst hp0
        have HR2 : Hid (r = (l, 0)) := by show _ = _; rw [HR.out]; exact lr_some14 HM.out HG.out.fin
        go_wp2_with fail
        refine bodyPost_ret (v := .tuple #[.slice S l.length cs, .int .i64 0]) (by simp [results, Try.results17, go_sem]) rfl ?_
        rw [HR2.out]
        exact ⟨S, cs, rfl, HO.out, HB.out⟩
      · have HP0 := hid hp0
        obtain ⟨x0, x1, x2⟩ := HX.out.c3
        go_wp2_with fail
        refine (pisproc_any14 h p A c w w1 HS.out HB.out).mono ?_
        rintro e w2 ⟨rfl, hb⟩
        have HB2 := hid (then_w HB.out hb)
        have HX2 := hid (HX.out.later hb)
        have HO2 := hid (own_later HO.out hb)
        clear hb x0 x1 x2 HB HX HO
        cases hpc : pc14 h p
        · have DONE := hid (ls_nil14 141 HB2.out)
          have HR2 : Hid (r = ([], 141)) := by show _ = _; rw [HR.out]; exact lr_none14 HM.out (HG.out.bad HP0.out (.inl hpc))
          clear hpc
          go_wp2_with fail
          refine bodyPost_ret (v := .tuple #[.slice none 0 0, .int .i64 141]) (by simp [results, Try.results17, go_sem]) rfl ?_
          rw [HR2.out]
          exact DONE.out
        · have HPC := hid hpc
          clear hpc
          have HI2 := hid (own_ints HO2.out)
          have hl64 : l.length ≤ 9223372036854775807 := by have := HLL.out; have := may_len HM.out; omega
          go_wp2_with fail
          refine (contains_any14 l S cs p w2 HI2.out hl64).mono ?_
          rintro e w3 ⟨rfl, rfl⟩
          by_cases hin : p ∈ l
          · have DONE := hid (ls_nil14 141 HB2.out)
            have HR2 : Hid (r = ([], 141)) := by show _ = _; rw [HR.out]; exact lr_none14 HM.out (HG.out.bad HP0.out (.inr hin))
            rw [decide_eq_true hin]
            clear hin
            go_wp2_with fail
            refine bodyPost_ret (v := .tuple #[.slice none 0 0, .int .i64 141]) (by simp [results, Try.results17, go_sem]) rfl ?_
            rw [HR2.out]
            exact DONE.out
          · rw [decide_eq_false hin]
            have HIN := hid hin
            have HG2 := hid (HG.out.next HP0.out HPC.out HIN.out)
            obtain ⟨q, hq⟩ : ∃ q, q = sl14 h p 0 := ⟨_, rfl⟩
            rw [← hq] at HG2
            clear hin hl64
            have HAL := hid (below_alloc w3 (.cells #[.int .i64 p] 3))
            have HO3 := hid (own_later HO2.out HAL.out)
            have HN := hid (Lies.new w3 3 #[.int .i64 p])
            have hz := HB2.out.size
            have hz2 : w.heap.size ≤ (w3.alloc (.cells #[.int .i64 p] 3)).heap.size := by simp; omega
            have hl2 : l.length + 1 ≤ 300 := by have := HLL.out; have := may_len HM.out; omega
            go_wp2_with (at_builtin; refine wpList_append_one rfl (.tmp 32) (.tmp 34) rfl w.heap.size _ _ _ rfl HO3.out _ _ rfl HN.out (by omega) hz2 ?_)
            intro v' w4 h1 h2
            obtain ⟨S2, c2, rfl⟩ := own_form h1
            have h1 : w4.ownsRow w.heap.size 3 1 (.slice S2 (l ++ [p]).length c2) (l ++ [p]).length ((l ++ [p]).map (Value.int .i64)) := by
              rw [List.map_append, List.length_append]; exact h1
            have hb2 := HB2.out.trans ((HAL.out.mono hz).grown h2 hz2 (fun q hq => (HO3.out.lt q hq).1))
            have HX4 := hid (lies_grown14 h2 (HX2.out.later HAL.out) HO3.out (by decide))
            have HO4 := hid h1
            have HB4 := hid hb2
            have hlen : (l ++ [p]).length = l.length + 1 := by simp
            clear h1 h2 hb2 hz hz2
            obtain ⟨i, b, off, So, dd, hv, hil, rfl, hc, hint, hbu⟩ := ob_read14 HS.out HB4.out (pc_ref14 HPC.out).1
            obtain ⟨-, -, z2, -, -, -⟩ := hc
            have hl4 := (pc_ref14 HPC.out).2
            obtain ⟨a0, a1, a2, a3, hsl⟩ := list4_14 hl4
            rw [hsl] at hint z2
            obtain ⟨bs, os, rfl, hbs, hcs⟩ := hint (by simp)
            have y0 := hcs 0 a0 rfl
            have hqa : q = a0 := by rw [hq]; unfold sl14; rw [hsl]; rfl
            simp only [Nat.add_zero] at y0
            rw [← hqa] at y0
            have hilI : (i : Int) < (h.objs.length : Int) := by omega
            have hi0 : (0 : Int) ≤ (i : Int) := by omega
            have HAT : Hid (∀ W : World, Calls Try.prog 38 #[.int .i64 p] W fun e w' => e = .returned (.int .i64 (i : Int)) ∧ w' = W) := by
              show ∀ W : World, _
              intro W
              rw [← hv]
              exact (pat_any14 p W).mono fun _ _ ⟨he, hw⟩ => ⟨he, hw.symm⟩
            obtain ⟨x0, x1, x2⟩ := HX4.out.c3
            clear hcs hsl hl4 hv hbu hbs hqa hq
            rw [show l.length + 1 = (l ++ [p]).length from hlen.symm]
            go_upto_region 6 with fail
            go_quiet ((go_at_call 38; exact Calls.quiet_of_same (HAT.out _)))
            go_wp2_with fail
            go_roundw
            case rel => exact ⟨l ++ [p], S2, c2, q, rfl, rfl, HG2, own_later HO4.out (below_drewN _ _), then_w HB4.out (below_drewN _ _), HX4.out.later (below_drewN _ _)⟩
            case measure =>
              have := HLL.out
              simp [len14]
              omega
end Go.Proofs.Ytkpfmbdkfgeboaa
