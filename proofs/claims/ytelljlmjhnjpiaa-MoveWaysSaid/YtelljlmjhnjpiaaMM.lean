/- mark's closure that meets a value: what is met so far lies in memory of the call's own. -/
import Derived.Test.YtelljlmjhnjpiaaMR
import Derived.Test.YtelljlmjhnjpiaaY
namespace Go.Proofs.Ytelljlmjhnjpiaa
open Go.RowKit
set_option maxRecDepth 100000
def intN (i : Nat) : Value := .int .i64 (i : Int)
def marksOf (n : Nat) (M : List Nat) : List Value := (List.range n).map fun i => Value.bool (decide (i ∈ M))
/-- the met list's box is block bm, the marks' box is block bi -/
structure MeetS (w : World) (base : Nat) (n : Nat) (bm bi : Nat) (M : List Nat) (A : Option Addr) (c g : Nat) : Prop where
  mb : Lies w bm 44 #[.slice A M.length c]
  ib : Lies w bi 82 #[.slice (some ⟨g, 0, none⟩) n n]
  mrow : w.ownsRow base 3 1 (.slice A M.length c) M.length (M.map intN)
  irow : w.ownsRow base 4 1 (.slice (some ⟨g, 0, none⟩) n n) n (marksOf n M)
  mlo : base ≤ bm
  ilo : base ≤ bi
theorem marks_set {n : Nat} {M : List Nat} {i : Nat} (hi : i < n) : (marksOf n M).set i (.bool true) = marksOf n (M ++ [i]) := by
  unfold marksOf
  apply List.ext_getElem?
  intro j
  rw [List.getElem?_set]
  by_cases e : i = j
  · subst e
    rw [if_pos rfl]
    simp [hi]
  · rw [if_neg e]
    by_cases hj : j < n
    · simp [List.getElem?_range hj, Ne.symm e]
    · simp [List.getElem?_eq_none (show (List.range n).length ≤ j by simp; omega)]
/-- blocks that hold heaps, or objects, in boxes stay -/
def Boxes (w w' : World) : Prop := ∀ k t cs, t = 24 ∨ t = 46 → Lies w k t cs → Lies w' k t cs
theorem Boxes.refl (w : World) : Boxes w w := fun _ _ _ _ h => h
theorem Boxes.trans {a b c : World} (h : Boxes a b) (k : Boxes b c) : Boxes a c := fun i t cs ht hl => k i t cs ht (h i t cs ht hl)
theorem Boxes.of_below {w w' : World} (h : Below w.heap.size w w') : Boxes w w' := fun _ _ _ _ hl => hl.later h
theorem lies_ne {w : World} {g g' : Nat} {t t' : TypeId} {cs cs' : Array Value} (h : Lies w g t cs) (h' : Lies w g' t' cs') (e : t ≠ t') : g ≠ g' := fun eq => by
  subst eq
  have := h.symm.trans h'
  injection this with this
  injection this with _ this
  exact e this
theorem meet_no (v : Int) (bm bi : Nat) (w : World) (hv : atB v = false) :
    Calls Try.prog 104 #[.int .i64 v, .pointer (some ⟨bi, 0, none⟩), .pointer (some ⟨bm, 0, none⟩)] w fun e w' => e = .returned (.tuple #[]) ∧ w' = w := by
  go_enter Try.func104, Try.ntmps104
  go_wp2_with (first | (go_at_call 76; refine (at_any _ _).mono ?_; rintro e w' ⟨rfl, rfl⟩))
  refine bodyPost_end (v := .tuple #[]) (by simp [results, Try.results104, go_sem]) rfl ?_
  exact ⟨rfl, rfl⟩
theorem bool_info : (Try.prog.info? 4).map (fun i => (i.zero, i.size, i.bytes)) = some (some (.bool false), 1, 1) := by kernel_rfl
set_option maxHeartbeats 2000000 in
theorem meet_yes (n i : Nat) (M : List Nat) (v : Int) (bm bi base : Nat) (A : Option Addr) (c g : Nat) (w : World) (hs : MeetS w base n bm bi M A c g) (hv : atB v = true) (hi : atV v = i) (hin : i < n) (hM : M.length ≤ 256) :
    Calls Try.prog 104 #[.int .i64 v, .pointer (some ⟨bi, 0, none⟩), .pointer (some ⟨bm, 0, none⟩)] w fun e w' => e = .returned (.tuple #[]) ∧
      ∃ A' c', MeetS w' base n bm bi (if i ∈ M then M else M ++ [i]) A' c' g ∧ Below base w w' ∧ Boxes w w' := by
  have HS := hid hs
  obtain ⟨mb, ib, mrow, irow, mlo, ilo⟩ := hs
  have b0 := ib.cell 0
  have m0 := mb.cell 0
  simp only [List.getElem?_toArray, List.getElem?_cons_zero] at b0 m0
  have gi := irow.cellAt i (by omega)
  have fi := irow.frozenAt i
  have e : (marksOf n M)[i]? = some (.bool (decide (i ∈ M))) := by simp [marksOf, hin]
  rw [e] at gi
  by_cases hm : i ∈ M
  · rw [if_pos hm]
    simp only [hm, decide_true] at gi
    clear mrow irow mb ib mlo ilo m0 fi e
    go_enter Try.func104, Try.ntmps104
    go_wp2_with (first | (go_at_call 76; refine (at_any _ _).mono ?_; rintro e w' ⟨rfl, rfl⟩))
    refine bodyPost_end (v := .tuple #[]) (by simp [results, Try.results104, go_sem]) rfl ?_
    exact ⟨rfl, A, c, HS.out, Below.refl _ _, Boxes.refl _⟩
  · rw [if_neg hm]
    simp only [hm, decide_false] at gi
    have hgm := hid (own_blk_ne (g := bm) irow mb (by decide))
    have nbg : g ≠ bm := fun e => hgm.out (by simp [Value.ownBlock, e])
    have hgi := hid (own_blk_ne (g := bi) irow ib (by decide))
    have nig : g ≠ bi := fun e => hgi.out (by simp [Value.ownBlock, e])
    have nib : bi ≠ bm := lies_ne ib mb (by decide)
    have fm := mb.frozen 0
    have hgl : base ≤ g := (irow.lt g rfl).1
    have hglt : g < w.heap.size := (irow.lt g rfl).2
    -- behind the mark's store
    have irow2 := (irow.stored i (.bool true)).1
    have mb2 := mb.far (p := ⟨g, i, none⟩) (by exact fun e => nbg e.symm) (.bool true)
    have ib2 := ib.far (p := ⟨g, i, none⟩) (by exact fun e => nig e.symm) (.bool true)
    have hmg : (Value.slice A M.length c).ownBlock ≠ some g := by
      obtain ⟨cur, hl, -⟩ := own_blk irow
      exact own_blk_ne mrow hl (by decide)
    have mrow2 := ownsRow_setCell_other mrow (a := ⟨g, i, none⟩) (by exact hmg) (.bool true)
    have HAL := hid (below_alloc (w.setCell ⟨g, i, none⟩ (.bool true)) (.cells #[.int .i64 i] 3))
    have hsz : (w.setCell ⟨g, i, none⟩ (.bool true)).heap.size = w.heap.size := by simp
    have HI := hid (own_later irow2 HAL.out)
    have HMB := hid (mb2.later HAL.out)
    have HIB := hid (ib2.later HAL.out)
    have HMR := hid (own_later mrow2 HAL.out)
    have HN : Hid (∀ j u, ([.int .i64 i] : List Value)[j]? = some u → ((w.setCell ⟨g, i, none⟩ (.bool true)).alloc (.cells #[.int .i64 i] 3)).cell? ((⟨w.heap.size, 0, none⟩ : Addr).add j) = some u) := by
      intro j u hu
      have := (Lies.new (w.setCell ⟨g, i, none⟩ (.bool true)) 3 #[.int .i64 i]).cell j
      rw [hsz] at this
      rw [Addr.add_lit, Nat.zero_add, this]
      simpa using hu
    have HN1 : Hid (∀ u ∈ ([.int .i64 i] : List Value), u.oneCell' = true) := by
      intro u hu
      obtain rfl : u = .int .i64 i := by simpa using hu
      rfl
    have hbs : base ≤ ((w.setCell ⟨g, i, none⟩ (.bool true)).alloc (.cells #[.int .i64 i] 3)).heap.size := by simp; omega
    obtain ⟨i0, hi0, hz0, hz1, hz2⟩ := info_parts int_info
    have m2 := mb2.cell 0
    simp only [List.getElem?_toArray, List.getElem?_cons_zero] at m2
    clear mrow irow mb ib mlo ilo e irow2 mb2 ib2 mrow2 hmg
    go_enter Try.func104, Try.ntmps104
    go_wp2_with (first | (go_at_call 76; refine (at_any _ _).mono ?_; rintro e w' ⟨rfl, rfl⟩) | (at_builtin; refine wpList_append_own _ rfl (.tmp 22) (.tmp 24) 44 rfl base 3 i0 (.int .i64 0) 1 8 Try.underlying44 hi0 hz0 hz1 hz2 rfl (by decide) _ _ _ rfl HMR.out ⟨w.heap.size, 0, none⟩ 1 1 [.int .i64 i] rfl rfl HN.out HN1.out (by unfold maxLen; omega) (by omega) hbs ?_))
    intro v2 w2 hown2 hgrow2 _
    obtain ⟨A4, c4, rfl⟩ := own_form hown2
    have hrb : ∀ k, (Value.slice A M.length c).ownBlock = some k → base ≤ k := fun k hk => (HMR.out.lt k hk).1
    have nbm := own_blk_ne HMR.out HMB.out (by decide)
    have nbi := own_blk_ne HMR.out HIB.out (by decide)
    have mb3 := HMB.out.grown hgrow2 (fun e => nbm e.symm)
    have ib3 := HIB.out.grown hgrow2 (fun e => nbi e.symm)
    have f3 := mb3.frozen 0
    have m3 := mb3.cell 0
    simp only [List.getElem?_toArray, List.getElem?_cons_zero] at m3
    have HW := hid hown2
    have HG := hid hgrow2
    have HM3 := hid mb3
    have HI3 := hid ib3
    clear hown2 hgrow2 mb3 ib3 nbm nbi
    go_wp2_with fail
    refine bodyPost_end (v := .tuple #[]) (by simp [results, Try.results104, go_sem]) rfl ?_
    have hI4 : w2.ownsRow base 4 1 (.slice (some ⟨g, 0, none⟩) n n) n ((marksOf n M).set i (.bool true)) := by
      refine HI.out.kept HG.out (.inr fun e => ?_)
      obtain ⟨cur, hl, -⟩ := own_blk HI.out
      exact own_blk_ne HMR.out hl (by decide) (e.symm.trans rfl)
    have h4 : M.length + 1 = (M ++ [i]).length := by simp
    have hm4 : M.map intN ++ [.int .i64 i] = (M ++ [i]).map intN := by simp [intN]
    refine ⟨rfl, A4, c4, ⟨?_, ?_, ?_, ?_, HS.out.mlo, HS.out.ilo⟩, ?_, ?_⟩
    · rw [← h4]; simpa using HM3.out.set_ 0 (.slice A4 (M.length + 1) c4)
    · exact HI3.out.far (by exact nib) _
    · rw [← h4, ← hm4]
      exact ownsRow_setCell_other HW.out (own_blk_ne HW.out HM3.out (by decide)) _
    · rw [← marks_set hin]
      refine ownsRow_setCell_other hI4 (fun e => ?_) _
      exact nbg (by simpa [Value.ownBlock] using e)
    · have h1 : Below base w (w.setCell ⟨g, i, none⟩ (.bool true)) := (Below.refl _ _).setCell hgl _
      have h2 := (h1.trans (HAL.out.mono (by rw [hsz]; omega))).grown HG.out hbs hrb
      exact h2.setCell HS.out.mlo _
    · intro k t cs ht hl
      have ne1 : k ≠ g := fun e => by
        obtain ⟨cur, hl', -⟩ := own_blk HS.out.irow
        exact lies_ne hl hl' (by rcases ht with rfl | rfl <;> decide) e
      have ne2 : k ≠ bm := fun e => lies_ne hl HS.out.mb (by rcases ht with rfl | rfl <;> decide) e
      have k1 := (hl.far (p := ⟨g, i, none⟩) (by exact ne1) (.bool true)).later HAL.out
      have k2 := k1.grown HG.out (fun e => own_blk_ne HMR.out k1 (by rcases ht with rfl | rfl <;> decide) e.symm)
      exact k2.far (by exact ne2) _
end Go.Proofs.Ytelljlmjhnjpiaa
