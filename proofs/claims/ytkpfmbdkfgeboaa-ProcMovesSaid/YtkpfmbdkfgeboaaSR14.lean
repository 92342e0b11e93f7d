/- Processes that wait: what the laws lean on. -/
import Derived.Test.YtkpfmbdkfgeboaaSN14
import Derived.Test.YtkpfmbdkfgeboaaRT14
namespace Go.Proofs.Ytkpfmbdkfgeboaa
open Go.RowKit
set_option maxRecDepth 100000
theorem pc_kind14 {h : Hp} (hm : mayB h = true) {p : Int} (hp : pc14 h p = true) : (obAt h p).kind = 0 := by
  obtain ⟨hr, hl⟩ := pc_ref14 hp
  have hs := slot_kind14 hm hr (fun e => by rw [e] at hl; cases hl)
  unfold sls12 at hs
  split at hs
  · exact (kd_ref12 (by assumption)).2
  · rw [← hs] at hl; cases hl
theorem may_set14 {h : Hp} (hm : mayB h = true) {p x : Int} (hp : pc14 h p = true) (hx : refB h.objs.length x = true) : mayB (setH h p 0 x) = true :=
  set_may ⟨hm, (pc_ref14 hp).1, pc_kind14 hm hp, Int.le_refl 0, by rw [(pc_ref14 hp).2]; decide⟩ (by unfold hasB; rw [hx, Bool.or_true])
theorem ref_zero14 {h : Hp} {p : Int} (hp : pc14 h p = true) : refB h.objs.length 0 = true := by
  obtain ⟨h1, h2, h3⟩ := refB_no (pc_ref14 hp).1
  unfold refB
  have e : atB 0 = true := by decide
  have e2 : atV 0 = 0 := by decide
  rw [e, e2]
  simp
  omega
theorem len_set14 (h : Hp) (p k x : Int) : (setH h p k x).objs.length = h.objs.length := by unfold setH; simp
theorem lk_may14 {h : Hp} (hm : mayB h = true) : ∀ {l : List Int}, (∀ q ∈ l, pc14 h q = true) → mayB (lk14 h l) = true ∧ (∀ q, pc14 (lk14 h l) q = pc14 h q) ∧ (lk14 h l).objs.length = h.objs.length
  | [], _ => ⟨hm, fun _ => rfl, rfl⟩
  | p :: t, hp => by
    obtain ⟨i1, i2, i3⟩ := lk_may14 hm (l := t) fun q hq => hp q (List.mem_cons_of_mem _ hq)
    have hpp : pc14 (lk14 h t) p = true := by rw [i2]; exact hp p (by simp)
    have hx : refB (lk14 h t).objs.length (t.headD 0) = true := by
      rw [i3]
      cases t with
      | nil => exact ref_zero14 (hp p (by simp))
      | cons q s => exact (pc_ref14 (hp q (by simp))).1
    refine ⟨may_set14 i1 hpp hx, fun q => ?_, ?_⟩
    · show pc14 (setH (lk14 h t) p 0 (t.headD 0)) q = _
      rw [pc_set14 hpp (refB_no hx).1, i2]
    · show (setH (lk14 h t) p 0 (t.headD 0)).objs.length = _
      rw [len_set14, i3]
theorem jo_may14 {h : Hp} (hm : mayB h = true) (f p : Int) (b : Int → Bool) : mayB (jo14 h f p b).1 = true := by
  cases hl : ls14 h f with
  | none => rw [jo_none14 hm hl]; exact hm
  | some l =>
    by_cases hb : fr14 h p = false ∨ p ∈ l
    · rw [jo_bad14 hm hl hb]; exact hm
    · have hf : fr14 h p = true := by simpa using fun g => hb (.inl g)
      have hn : p ∉ l := fun g => hb (.inr g)
      rw [jo_good14 hm hl hf hn]
      refine (lk_may14 hm fun q hq => ?_).1
      unfold jl14 at hq
      rcases List.mem_append.1 hq with k | k
      · exact (ls_some14 hl).2.1 q (List.mem_of_mem_take k)
      · rcases List.mem_cons.1 k with rfl | k
        · unfold fr14 at hf
          simp only [Bool.and_eq_true] at hf
          exact hf.1
        · exact (ls_some14 hl).2.1 q (List.mem_of_mem_drop k)
theorem wo_may14 {h : Hp} (hm : mayB h = true) {l : List Int} (hp : ∀ q ∈ l, pc14 h q = true) {k : Nat} (hk : k < l.length) : mayB (wo14 h l k).1 = true := by
  have hg : l.getD k 0 ∈ l := by rw [List.getD_eq_getElem?_getD, List.getElem?_eq_getElem hk]; exact List.getElem_mem hk
  have h0 := ref_zero14 (hp _ hg)
  refine (lk_may14 (may_set14 hm (hp _ hg) h0) fun q hq => ?_).1
  rw [pc_set14 (hp _ hg) (refB_no h0).1]
  refine hp q ?_
  unfold wl14 at hq
  rcases List.mem_append.1 hq with g | g
  · exact List.mem_of_mem_take g
  · exact List.mem_of_mem_drop g
/-- nobody in l has a lesser priority -/
def le14 (h : Hp) (p : Int) (l : List Int) : Bool := l.all fun q => decide (sl14 h p 2 ≤ sl14 h q 2)
theorem pc_nB14 {h : Hp} {p : Int} (hp : pc14 h p = true) : nB (sl14 h p 2) = true := by
  unfold pc14 wi14 at hp
  simp only [Bool.and_eq_true] at hp
  exact hp.2.1.1
theorem le_is14 {h : Hp} {f p : Int} {l : List Int} (hm : mayB h = true) (hl : ls14 h f = some l) (hp : pc14 h p = true) (hle : le14 h p l = true) : is14 h f p = ap14 h f p := by
  have e1 : l.findIdx (be14 h p) = l.length := List.findIdx_eq_length.2 fun q hq => by
    have h1 : sl14 h p 2 ≤ sl14 h q 2 := by simpa using List.all_eq_true.1 hle q hq
    unfold be14 pr14 nV
    rw [pc_nB14 hp, pc_nB14 ((ls_some14 hl).2.1 q hq)]
    simp only [if_true]
    exact decide_eq_false (by omega)
  have e2 : l.findIdx (fun _ => false) = l.length := List.findIdx_eq_length.2 fun q hq => rfl
  unfold is14 ap14
  by_cases hb : fr14 h p = false ∨ p ∈ l
  · rw [jo_bad14 hm hl hb, jo_bad14 hm hl hb]
  · have hf : fr14 h p = true := by simpa using fun g => hb (.inl g)
    have hn : p ∉ l := fun g => hb (.inr g)
    rw [jo_good14 hm hl hf hn, jo_good14 hm hl hf hn, e1, e2]
theorem err_is14 {h : Hp} {f p : Int} {l : List Int} (hm : mayB h = true) (hl : ls14 h f = some l) : (is14 h f p).2.2 = (ap14 h f p).2.2 := by
  unfold is14 ap14
  by_cases hb : fr14 h p = false ∨ p ∈ l
  · rw [jo_bad14 hm hl hb, jo_bad14 hm hl hb]
  · have hf : fr14 h p = true := by simpa using fun g => hb (.inl g)
    have hn : p ∉ l := fun g => hb (.inr g)
    rw [jo_good14 hm hl hf hn, jo_good14 hm hl hf hn]
theorem head_td14 {h : Hp} {f : Int} {l : List Int} (hm : mayB h = true) (hl : ls14 h f = some l) (hn : l ≠ []) :
    tk14 h f = ((wo14 h l 0).1, f, (wo14 h l 0).2, 0) ∧ dr14 h f f = ((wo14 h l 0).1, (wo14 h l 0).2, 0) ∧ mayB (wo14 h l 0).1 = true := by
  obtain ⟨-, hp, hh, -⟩ := ls_some14 hl
  cases l with
  | nil => exact absurd rfl hn
  | cons a t =>
    obtain rfl : a = f := hh
    refine ⟨tk_good14 hm hl hn, ?_, wo_may14 hm hp (by simp)⟩
    rw [dr_good14 hm hl (by simp)]
    simp
/-- the loop over a list, and what it finds -/
theorem le_step14 {h : Hp} {p : Int} {l : List Int} {k : Nat} (hk : k < l.length) : le14 h p (l.take (k + 1)) = (le14 h p (l.take k) && decide (sl14 h p 2 ≤ sl14 h l[k] 2)) := by
  rw [List.take_succ_eq_append_getElem hk]
  unfold le14
  rw [List.all_append]
  simp
end Go.Proofs.Ytkpfmbdkfgeboaa
