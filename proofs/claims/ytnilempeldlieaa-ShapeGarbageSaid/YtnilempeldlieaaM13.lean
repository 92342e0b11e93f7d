/- slices.Repeat of one int. mark's closure that meets a value: what is met so far lies in memory of the call's own. mark's reach walked: what is met is what is reached. mark's small functions: isValue, the closure of Live, ContainsFunc over roots. -/
import Derived.Test.YtnilempeldlieaaM03
import Derived.Test.YtnilempeldlieaaZ
import Derived.Laws.CopyOwn
import Derived.Deep.OwnRows
import Derived.Deep.RegionLaw
import Derived.Test.YtnilempeldlieaaWY
import Derived.Test.YtnilempeldlieaaM09
import Derived.Laws.EntriesVeiled
namespace Go.Proofs.Ytnilempeldlieaa
open Go.RowKit
set_option maxRecDepth 100000
theorem int_size : (Try.prog.info? 3).map (·.size) = some 1 := by kernel_rfl
theorem mul_one_any (n : Nat) (hn : n ≤ 9223372036854775807) (w : World) : Calls Try.prog 80 #[.int .u64 1, .int .u64 n] w fun e w' => e = .returned (.tuple #[.int .u64 0, .int .u64 n]) ∧ w' = w := by
  have := Try.bits_Mul 1 n (by omega) (by omega) w
  rw [show 1 * n / 18446744073709551616 = 0 by omega, show 1 * n % 18446744073709551616 = n by omega] at this
  exact this
theorem rep_splice {α : Type} (x z : α) {k m n : Nat} (h : k + m ≤ n) : splice (List.replicate k x ++ List.replicate (n - k) z) k (List.replicate m x) = List.replicate (k + m) x ++ List.replicate (n - (k + m)) z := by
  unfold splice
  rw [List.take_left' (by simp), List.length_replicate, List.drop_append, List.drop_eq_nil_of_le (by simp), List.nil_append, List.length_replicate, List.drop_replicate, ← List.append_assoc, List.replicate_append_replicate]
  congr 2; omega
set_option maxHeartbeats 2000000 in
theorem repeat_any (x : Int) (n : Nat) (hn : n ≤ 256) (A : Option Addr) (c : Nat) (w : World) (hs : IntsR w A [x]) :
    Calls Try.prog 59 #[.slice A 1 c, .int .i64 n] w fun e w' => ∃ A' c', e = .returned (.slice A' n c') ∧ w'.ownsRow w.heap.size 3 1 (.slice A' n c') n ((List.replicate n x).map (Value.int .i64)) ∧ Below w.heap.size w w' := by
  obtain ⟨b, o, rfl, hb, hc⟩ := hs (by simp)
  have hx := hc 0 x rfl
  have hmk := run_make_row' (P := Try.prog) 31 3 (.int .i64 0) 8 Try.underlying31 int_info rfl .i64 .i64 n (by omega) (by omega)
  have HX := hid hx
  obtain ⟨q, hq⟩ : ∃ q, q = Nat.min 1 n := ⟨_, rfl⟩
  have hq1 : q ≤ 1 := by rw [hq]; exact Nat.min_le_left _ _
  have hqn : q ≤ n := by rw [hq]; exact Nat.min_le_right _ _
  have hq0 : 0 < n → 0 < q := fun h => by rw [hq]; exact Nat.lt_min.2 ⟨Nat.one_pos, h⟩
  have HQ := hid hq
  have hrow : (w.alloc (.cells (madeCells #[.int .i64 0] n) 3)).heap[w.heap.size]? = some (.cells (List.replicate n (Value.int .i64 0)).toArray 3 (0, 0)) := by
    have := heap_alloc_new w (.cells (madeCells #[.int .i64 0] n) 3)
    rw [this, ← toList_madeCells_one, Array.toArray_toList]
  have HROW := hid hrow
  have HPOS : Hid (∀ j v, (List.replicate q (Value.int .i64 x))[j]? = some v → (w.alloc (.cells (madeCells #[.int .i64 0] n) 3)).cell? ((⟨b, o, none⟩ : Addr).add j) = some v) := by
    intro j v hj
    have h1 := (List.getElem?_eq_some_iff.1 hj).1
    rw [List.length_replicate] at h1
    obtain rfl : j = 0 := by omega
    rw [List.getElem?_replicate, if_pos h1] at hj
    rw [Addr.add_lit, ← Option.some.inj hj]
    exact cell_old HX.out
  have HBA := hid (below_alloc w (.cells (madeCells #[.int .i64 0] n) 3))
  clear hx hc hs hb hrow hq
  go_enter Try.func59, Try.ntmps59
  go_wp2_with fail
  refine (mul_one_any n (by omega) _).mono ?_
  rintro e w1 ⟨rfl, rfl⟩
  go_upto_region 7 with fail
  go_wp2_with (refine wpList_copy_splice rfl (.tmp 31) (.tmp 32) 31 31 rfl 3 Try.underlying31 int_size _ _ _ _ _ _ rfl rfl w1.heap.size 0 (List.replicate n (Value.int .i64 0)) 3 HROW.out (List.replicate q (Value.int .i64 x)) (by rw [List.length_replicate]; exact HQ.out) (fun _ => ⟨rfl, _, rfl, HPOS.out⟩) (by simpa using hqn) (by intro v hv; rw [List.eq_of_mem_replicate hv]; rfl) w1.heap.size w1 HBA.out (Nat.le_refl _) ?_)
  intro w2 HG HB2
  have HB2 := hid HB2
  have hsp := rep_splice (Value.int .i64 x) (Value.int .i64 0) (k := 0) (m := q) (n := n) (by omega)
  simp only [List.replicate_zero, List.nil_append, Nat.sub_zero, Nat.zero_add] at hsp
  rw [hsp] at HG
  clear hsp
  go_wp2_with fail
  go_loopw [8] (fun i wr => ∃ k : Nat, (0 < n → 0 < k) ∧ k ≤ n ∧ i = .int .i64 k ∧ wr.heap[w1.heap.size]? = some (.cells (List.replicate k (Value.int .i64 x) ++ List.replicate (n - k) (Value.int .i64 0)).toArray 3 (0, 0)) ∧ Below w1.heap.size w1 wr) (fun i _ => n - (intOf i).toNat)
  case atStart => exact ⟨q, hq0, hqn, by first | rfl | simp, HG.out, HB2.out⟩
  case round =>
    clear HG HB2
    obtain ⟨k, hk0, hk, rfl, hrow, hbw⟩ := hrel
    have HR := hid hrow
    have HW := hid hbw
    have HK0 := hid hk0
    clear hrow hbw hk0
    by_cases hlt : k < n
    · obtain ⟨m, hm⟩ : ∃ m, m = Nat.min k (n - k) := ⟨_, rfl⟩
      have hm1 : m ≤ k := by rw [hm]; exact Nat.min_le_left _ _
      have hm2 : m ≤ n - k := by rw [hm]; exact Nat.min_le_right _ _
      have hm0 : 0 < m := by rw [hm]; exact Nat.lt_min.2 ⟨HK0.out (by omega), by omega⟩
      have HM := hid hm
      clear hm
      have HRD : Hid (wr.drew.heap[w1.heap.size]? = some (.cells (List.replicate k (Value.int .i64 x) ++ List.replicate (n - k) (Value.int .i64 0)).toArray 3 (0, 0))) := HR.out
      have HWD := hid HW.out.drew
      have HPS : Hid (∀ j v, (List.replicate m (Value.int .i64 x))[j]? = some v → wr.drew.cell? ((⟨w1.heap.size, 0, none⟩ : Addr).add j) = some v) := by
        intro j v hj
        have h1 := (List.getElem?_eq_some_iff.1 hj).1
        rw [List.length_replicate] at h1
        rw [List.getElem?_replicate, if_pos h1] at hj
        rw [Addr.add_lit, Nat.zero_add, ← Option.some.inj hj]
        simp only [World.cell?, HRD.out]
        have hjk : j < k := by omega
        simp [List.getElem?_append, hjk]
      go_wp2_with fail
      go_region_law (refine step_copy_splice rfl (.tmp 41) (.tmp 44) 31 31 rfl 3 Try.underlying31 int_size (some ⟨w1.heap.size, k, none⟩) (some ⟨w1.heap.size, 0, none⟩) (n - k) (n - k) k n (by simp [Act.eval, Act.put]; omega) (by simp [Act.eval, Act.put]) w1.heap.size k (List.replicate k (Value.int .i64 x) ++ List.replicate (n - k) (Value.int .i64 0)) 3 HRD.out (List.replicate m (Value.int .i64 x)) (by rw [List.length_replicate]; exact HM.out) (fun _ => ⟨rfl, _, rfl, HPS.out⟩) (by simp; omega) (by intro v hv; rw [List.eq_of_mem_replicate hv]; rfl) w1.heap.size w1 HWD.out (Nat.le_refl _) ?_; intro w4 hg4 hb4)
      rw [rep_splice _ _ (by omega)] at hg4
      have hwr : IntKind.i64.wrap ((k : Int) + (m : Int)) = (k : Int) + (m : Int) := by rw [IntKind.wrap_i64]; omega
      rw [hwr]
      have HB4 := hid hb4
      clear hb4 hwr
      go_wp2_with fail
      go_roundw
      case rel => exact ⟨k + m, fun _ => by omega, by omega, by go_num, hg4.out, HB4.out⟩
      case measure => simp [intOf]; omega
    · obtain rfl : k = n := by omega
      go_wp2_with fail
      go_ret
      have hR := HR.out
      rw [Nat.sub_self, List.replicate_zero, List.append_nil] at hR
      exact ⟨some ⟨w1.heap.size, 0, none⟩, k, rfl, ⟨by simp, .inr ⟨w1.heap.size, k, (List.replicate k (Value.int .i64 x)).toArray, rfl, Nat.le_refl _, hR, Nat.le_refl _, by unfold maxLen; omega, by simp, by simp⟩⟩, HW.out⟩
end Go.Proofs.Ytnilempeldlieaa
namespace Go.Proofs.Ytnilempeldlieaa
open Go.RowKit
set_option maxRecDepth 100000
def intN (i : Nat) : Value := .int .i64 (i : Int)
def marksOf (n : Nat) (M : List Nat) : List Value := (List.range n).map fun i => Value.bool (decide (i ∈ M))
/-- the met list's box is block bm, the marks' box is block bi -/
structure MeetS (w : World) (base : Nat) (n : Nat) (bm bi : Nat) (M : List Nat) (A : Option Addr) (c g : Nat) : Prop where
  mb : Lies w bm 31 #[.slice A M.length c]
  ib : Lies w bi 77 #[.slice (some ⟨g, 0, none⟩) n n]
  mrow : w.ownsRow base 3 1 (.slice A M.length c) M.length (M.map intN)
  irow : w.ownsRow base 4 1 (.slice (some ⟨g, 0, none⟩) n n) n (marksOf n M)
  mlo : base ≤ bm
  ilo : base ≤ bi
theorem marks_set {n : Nat} {M : List Nat} {i : Nat} (hi : i < n) : (marksOf n M).set i (.bool true) = marksOf n (M ++ [i]) := by
  unfold marksOf
  apply List.ext_getElem?
  intro j
  rw [List.getElem?_set]
  by_cases e : i = j
  · subst e
    rw [if_pos rfl]
    simp [hi]
  · rw [if_neg e]
    by_cases hj : j < n
    · simp [List.getElem?_range hj, Ne.symm e]
    · simp [List.getElem?_eq_none (show (List.range n).length ≤ j by simp; omega)]
/-- blocks that hold heaps, or objects, in boxes stay -/
def Boxes (w w' : World) : Prop := ∀ k t cs, t = 24 ∨ t = 39 → Lies w k t cs → Lies w' k t cs
theorem Boxes.refl (w : World) : Boxes w w := fun _ _ _ _ h => h
theorem Boxes.trans {a b c : World} (h : Boxes a b) (k : Boxes b c) : Boxes a c := fun i t cs ht hl => k i t cs ht (h i t cs ht hl)
theorem Boxes.of_below {w w' : World} (h : Below w.heap.size w w') : Boxes w w' := fun _ _ _ _ hl => hl.later h
theorem meet_no (v : Int) (bm bi : Nat) (w : World) (hv : atB v = false) :
    Calls Try.prog 88 #[.int .i64 v, .pointer (some ⟨bi, 0, none⟩), .pointer (some ⟨bm, 0, none⟩)] w fun e w' => e = .returned (.tuple #[]) ∧ w' = w := by
  go_enter Try.func88, Try.ntmps88
  go_wp2_with (first | (go_at_call 70; refine (at_any _ _).mono ?_; rintro e w' ⟨rfl, rfl⟩))
  refine bodyPost_end (v := .tuple #[]) (by simp [results, Try.results88, go_sem]) rfl ?_
  exact ⟨rfl, rfl⟩
set_option maxHeartbeats 2000000 in
theorem meet_yes (n i : Nat) (M : List Nat) (v : Int) (bm bi base : Nat) (A : Option Addr) (c g : Nat) (w : World) (hs : MeetS w base n bm bi M A c g) (hv : atB v = true) (hi : atV v = i) (hin : i < n) (hM : M.length ≤ 256) :
    Calls Try.prog 88 #[.int .i64 v, .pointer (some ⟨bi, 0, none⟩), .pointer (some ⟨bm, 0, none⟩)] w fun e w' => e = .returned (.tuple #[]) ∧
      ∃ A' c', MeetS w' base n bm bi (if i ∈ M then M else M ++ [i]) A' c' g ∧ Below base w w' ∧ Boxes w w' := by
  have HS := hid hs
  obtain ⟨mb, ib, mrow, irow, mlo, ilo⟩ := hs
  have b0 := ib.cell 0
  have m0 := mb.cell 0
  simp only [List.getElem?_toArray, List.getElem?_cons_zero] at b0 m0
  have gi := irow.cellAt i (by omega)
  have fi := irow.frozenAt i
  have e : (marksOf n M)[i]? = some (.bool (decide (i ∈ M))) := by simp [marksOf, hin]
  rw [e] at gi
  by_cases hm : i ∈ M
  · rw [if_pos hm]
    simp only [hm, decide_true] at gi
    clear mrow irow mb ib mlo ilo m0 fi e
    go_enter Try.func88, Try.ntmps88
    go_wp2_with (first | (go_at_call 70; refine (at_any _ _).mono ?_; rintro e w' ⟨rfl, rfl⟩))
    refine bodyPost_end (v := .tuple #[]) (by simp [results, Try.results88, go_sem]) rfl ?_
    exact ⟨rfl, A, c, HS.out, Below.refl _ _, Boxes.refl _⟩
  · rw [if_neg hm]
    simp only [hm, decide_false] at gi
    have hgm := hid (own_blk_ne (g := bm) irow mb (by decide))
    have nbg : g ≠ bm := fun e => hgm.out (by simp [Value.ownBlock, e])
    have hgi := hid (own_blk_ne (g := bi) irow ib (by decide))
    have nig : g ≠ bi := fun e => hgi.out (by simp [Value.ownBlock, e])
    have nib : bi ≠ bm := lies_ne ib mb (by decide)
    have fm := mb.frozen 0
    have hgl : base ≤ g := (irow.lt g rfl).1
    have hglt : g < w.heap.size := (irow.lt g rfl).2
    -- behind the mark's store
    have irow2 := (irow.stored i (.bool true)).1
    have mb2 := mb.far (p := ⟨g, i, none⟩) (by exact fun e => nbg e.symm) (.bool true)
    have ib2 := ib.far (p := ⟨g, i, none⟩) (by exact fun e => nig e.symm) (.bool true)
    have hmg : (Value.slice A M.length c).ownBlock ≠ some g := by
      obtain ⟨cur, hl, -⟩ := own_blk irow
      exact own_blk_ne mrow hl (by decide)
    have mrow2 := ownsRow_setCell_other mrow (a := ⟨g, i, none⟩) (by exact hmg) (.bool true)
    have HAL := hid (below_alloc (w.setCell ⟨g, i, none⟩ (.bool true)) (.cells #[.int .i64 i] 3))
    have hsz : (w.setCell ⟨g, i, none⟩ (.bool true)).heap.size = w.heap.size := by simp
    have HI := hid (own_later irow2 HAL.out)
    have HMB := hid (mb2.later HAL.out)
    have HIB := hid (ib2.later HAL.out)
    have HMR := hid (own_later mrow2 HAL.out)
    have HN : Hid (∀ j u, ([.int .i64 i] : List Value)[j]? = some u → ((w.setCell ⟨g, i, none⟩ (.bool true)).alloc (.cells #[.int .i64 i] 3)).cell? ((⟨w.heap.size, 0, none⟩ : Addr).add j) = some u) := by
      intro j u hu
      have := (Lies.new (w.setCell ⟨g, i, none⟩ (.bool true)) 3 #[.int .i64 i]).cell j
      rw [hsz] at this
      rw [Addr.add_lit, Nat.zero_add, this]
      simpa using hu
    have HN1 : Hid (∀ u ∈ ([.int .i64 i] : List Value), u.oneCell' = true) := by
      intro u hu
      obtain rfl : u = .int .i64 i := by simpa using hu
      rfl
    have hbs : base ≤ ((w.setCell ⟨g, i, none⟩ (.bool true)).alloc (.cells #[.int .i64 i] 3)).heap.size := by simp; omega
    obtain ⟨i0, hi0, hz0, hz1, hz2⟩ := info_parts int_info
    have m2 := mb2.cell 0
    simp only [List.getElem?_toArray, List.getElem?_cons_zero] at m2
    clear mrow irow mb ib mlo ilo e irow2 mb2 ib2 mrow2 hmg
    go_enter Try.func88, Try.ntmps88
    go_wp2_with (first | (go_at_call 70; refine (at_any _ _).mono ?_; rintro e w' ⟨rfl, rfl⟩) | (at_builtin; refine wpList_append_own _ rfl (.tmp 22) (.tmp 24) 31 rfl base 3 i0 (.int .i64 0) 1 8 Try.underlying31 hi0 hz0 hz1 hz2 rfl (by decide) _ _ _ rfl HMR.out ⟨w.heap.size, 0, none⟩ 1 1 [.int .i64 i] rfl rfl HN.out HN1.out (by unfold maxLen; omega) (by omega) hbs ?_))
    intro v2 w2 hown2 hgrow2 _
    obtain ⟨A4, c4, rfl⟩ := own_form hown2
    have hrb : ∀ k, (Value.slice A M.length c).ownBlock = some k → base ≤ k := fun k hk => (HMR.out.lt k hk).1
    have nbm := own_blk_ne HMR.out HMB.out (by decide)
    have nbi := own_blk_ne HMR.out HIB.out (by decide)
    have mb3 := HMB.out.grown hgrow2 (fun e => nbm e.symm)
    have ib3 := HIB.out.grown hgrow2 (fun e => nbi e.symm)
    have f3 := mb3.frozen 0
    have m3 := mb3.cell 0
    simp only [List.getElem?_toArray, List.getElem?_cons_zero] at m3
    have HW := hid hown2
    have HG := hid hgrow2
    have HM3 := hid mb3
    have HI3 := hid ib3
    clear hown2 hgrow2 mb3 ib3 nbm nbi
    go_wp2_with fail
    refine bodyPost_end (v := .tuple #[]) (by simp [results, Try.results88, go_sem]) rfl ?_
    have hI4 : w2.ownsRow base 4 1 (.slice (some ⟨g, 0, none⟩) n n) n ((marksOf n M).set i (.bool true)) := by
      refine HI.out.kept HG.out (.inr fun e => ?_)
      obtain ⟨cur, hl, -⟩ := own_blk HI.out
      exact own_blk_ne HMR.out hl (by decide) (e.symm.trans rfl)
    have h4 : M.length + 1 = (M ++ [i]).length := by simp
    have hm4 : M.map intN ++ [.int .i64 i] = (M ++ [i]).map intN := by simp [intN]
    refine ⟨rfl, A4, c4, ⟨?_, ?_, ?_, ?_, HS.out.mlo, HS.out.ilo⟩, ?_, ?_⟩
    · rw [← h4]; simpa using HM3.out.set_ 0 (.slice A4 (M.length + 1) c4)
    · exact HI3.out.far (by exact nib) _
    · rw [← h4, ← hm4]
      exact ownsRow_setCell_other HW.out (own_blk_ne HW.out HM3.out (by decide)) _
    · rw [← marks_set hin]
      refine ownsRow_setCell_other hI4 (fun e => ?_) _
      exact nbg (by simpa [Value.ownBlock] using e)
    · have h1 : Below base w (w.setCell ⟨g, i, none⟩ (.bool true)) := (Below.refl _ _).setCell hgl _
      have h2 := (h1.trans (HAL.out.mono (by rw [hsz]; omega))).grown HG.out hbs hrb
      exact h2.setCell HS.out.mlo _
    · intro k t cs ht hl
      have ne1 : k ≠ g := fun e => by
        obtain ⟨cur, hl', -⟩ := own_blk HS.out.irow
        exact lies_ne hl hl' (by rcases ht with rfl | rfl <;> decide) e
      have ne2 : k ≠ bm := fun e => lies_ne hl HS.out.mb (by rcases ht with rfl | rfl <;> decide) e
      have k1 := (hl.far (p := ⟨g, i, none⟩) (by exact ne1) (.bool true)).later HAL.out
      have k2 := k1.grown HG.out (fun e => own_blk_ne HMR.out k1 (by rcases ht with rfl | rfl <;> decide) e.symm)
      exact k2.far (by exact ne2) _
end Go.Proofs.Ytnilempeldlieaa
namespace Go.Proofs.Ytnilempeldlieaa
open Go.RowKit
set_option maxRecDepth 100000
theorem meet_any (h : Hp) (M : List Nat) (v : Int) (bm bi base : Nat) (A : Option Addr) (c g : Nat) (w : World) (hs : MeetS w base h.objs.length bm bi M A c g) (hv : hasB h.objs.length v = true) (hM : M.length ≤ 256) :
    Calls Try.prog 88 #[.int .i64 v, .pointer (some ⟨bi, 0, none⟩), .pointer (some ⟨bm, 0, none⟩)] w fun e w' => e = .returned (.tuple #[]) ∧
      ∃ A' c', MeetS w' base h.objs.length bm bi (meetL h M v) A' c' g ∧ Below base w w' ∧ Boxes w w' := by
  cases hr : refB h.objs.length v
  · have e : meetL h M v = M := by unfold meetL; rw [if_neg (by rw [hr]; simp)]
    have ha : atB v = false := by
      unfold hasB at hv
      rw [hr, Bool.or_false] at hv
      have h1 := nB_iff.1 hv
      cases ha : atB v
      · rfl
      · have := atB_iff.1 ha; omega
    rw [e]
    refine (meet_no v bm bi w ha).mono ?_
    rintro e w' ⟨rfl, rfl⟩
    exact ⟨rfl, A, c, hs, Below.refl _ _, Boxes.refl _⟩
  · obtain ⟨ha, h0, h1⟩ := refB_no hr
    obtain ⟨i, hi⟩ : ∃ i : Nat, atV v = i := ⟨(atV v).toNat, by omega⟩
    have e : meetL h M v = if i ∈ M then M else M ++ [i] := by
      unfold meetL
      rw [hi, Int.toNat_natCast]
      by_cases hm : i ∈ M <;> simp [hr, hm]
    rw [e]
    exact meet_yes h.objs.length i M v bm bi base A c g w hs ha hi (by omega) hM
theorem met256 {h : Hp} {rs : List Int} {M : List Nat} (m : Met h rs M) (hm : mayB h = true) : M.length ≤ 256 := by
  have h1 := m.len
  have h2 := may_len hm
  omega
/-- what reach gives back -/
def ReachOut (w : World) (h : Hp) (rs : List Int) (e : Ending) (w' : World) : Prop :=
  ∃ (M : List Nat) (A : Option Addr) (c : Nat), e = .returned (.slice A M.length c) ∧ w'.ownsRow w.heap.size 3 1 (.slice A M.length c) M.length (M.map intN) ∧ M.Nodup ∧ M.length ≤ 256 ∧ (∀ i, i ∈ M ↔ Reach h rs i) ∧ Below w.heap.size w w'
theorem made_marks (n : Nat) : (madeCells #[.bool false] n).toList = marksOf n [] := by
  rw [toList_madeCells_one]
  unfold marksOf
  simp [List.map_const']
theorem start_meets (u : World) (n : Nat) (hn : n ≤ 256) :
    MeetS (((u.alloc (.cells #[.slice none 0 0] 31)).alloc (.cells (madeCells #[.bool false] n) 4)).alloc (.cells #[.slice (some ⟨u.heap.size + 1, 0, none⟩) n n] 77)) u.heap.size n u.heap.size (u.heap.size + 1 + 1) [] none 0 (u.heap.size + 1) ∧
      Below u.heap.size u (((u.alloc (.cells #[.slice none 0 0] 31)).alloc (.cells (madeCells #[.bool false] n) 4)).alloc (.cells #[.slice (some ⟨u.heap.size + 1, 0, none⟩) n n] 77)) := by
  have k1 := ((Lies.new u 31 #[.slice none 0 0]).alloc (.cells (madeCells #[.bool false] n) 4)).alloc (.cells #[.slice (some ⟨u.heap.size + 1, 0, none⟩) n n] 77)
  have k3 := Lies.new ((u.alloc (.cells #[.slice none 0 0] 31)).alloc (.cells (madeCells #[.bool false] n) 4)) 77 #[.slice (some ⟨u.heap.size + 1, 0, none⟩) n n]
  have k2 := World.ownsRow_lit (base := u.heap.size) (e := 4) (size := 1) (u.alloc (.cells #[.slice none 0 0] 31)) (madeCells #[.bool false] n) n (by simp) (by unfold maxLen; omega) (by rw [size_madeCells, Nat.mul_one])
  rw [made_marks] at k2
  have k2 := k2.alloc (.cells #[.slice (some ⟨u.heap.size + 1, 0, none⟩) n n] 77)
  simp only [World.size_alloc] at k2 k3
  exact ⟨⟨k1, k3, World.ownsRow_nil _ _ _ _, k2, Nat.le_refl _, by omega⟩, ((below_alloc u _).alloc (by simp) _).alloc (by simp; omega) _⟩
theorem MeetS.later {w w' : World} {base n bm bi : Nat} {M : List Nat} {A : Option Addr} {c g : Nat} (h : MeetS w base n bm bi M A c g) (hb : Below w.heap.size w w') : MeetS w' base n bm bi M A c g :=
  ⟨h.mb.later hb, h.ib.later hb, own_later h.mrow hb, own_later h.irow hb, h.mlo, h.ilo⟩
set_option maxHeartbeats 2000000 in
theorem reach_any (h : Hp) (rs : List Int) (A R : Option Addr) (c d : Nat) (w : World) (hs : ObsR w A h.objs) (hr : IntsR w R rs) (hm : mayB h = true) (hl : rs.length ≤ 9223372036854775807) (hv : ∀ v ∈ rs, hasB h.objs.length v = true) :
    Calls Try.prog 78 #[.agg #[.slice A h.objs.length c, .int .i64 h.cap, .int .i64 h.last], .slice R rs.length d] w (ReachOut w h rs) := by
  have hle := may_len hm
  have hmk := run_make_row' (P := Try.prog) 77 4 (.bool false) 1 Try.underlying77 bool_info rfl .i64 .i64 h.objs.length (by omega) (by omega)
  have HS := hid hs
  have HR := hid hr
  have HM := hid hm
  have HV := hid hv
  clear hs hr hm hv
  have K1 := Lies.new w 24 #[Value.slice A h.objs.length c, Value.int .i64 h.cap, Value.int .i64 h.last]
  go_enter Try.func78, Try.ntmps78
  go_wp2
  go_loopw [21] (fun i wr => ∃ (k : Nat) (M : List Nat) (A1 : Option Addr) (c1 : Nat), k ≤ rs.length ∧ i = .int .i64 k ∧ MeetS wr (w.heap.size + 1) h.objs.length (w.heap.size + 1) (w.heap.size + 1 + 1 + 1) M A1 c1 (w.heap.size + 1 + 1) ∧ Met h rs M ∧ (∀ j v, j < k → rs[j]? = some v → MetV h M v) ∧ Lies wr w.heap.size 24 #[Value.slice A h.objs.length c, Value.int .i64 h.cap, Value.int .i64 h.last] ∧ Below w.heap.size w wr) (fun i _ => rs.length - (intOf i).toNat)
  case atStart =>
    obtain ⟨hst, hbl⟩ := start_meets (w.alloc (.cells #[Value.slice A h.objs.length c, Value.int .i64 h.cap, Value.int .i64 h.last] 24)) h.objs.length hle
    have hx := K1.below hbl (by simp)
    have hbl2 := (below_alloc w (.cells #[Value.slice A h.objs.length c, Value.int .i64 h.cap, Value.int .i64 h.last] 24)).trans (hbl.mono (by simp))
    simp only [World.size_alloc] at hst hx hbl2
    exact ⟨0, [], none, 0, Nat.zero_le _, rfl, hst, ⟨List.nodup_nil, fun i hi => by simp at hi⟩, fun j v hj => by omega, hx, hbl2⟩
  case round =>
    obtain ⟨k, M, A1, c1, hk, rfl, hM, hmet, hroots, hbox, hbw⟩ := hrel
    have HW := hid hbw
    have HBX := hid hbox
    by_cases hlt : k < rs.length
    · obtain ⟨bs, os, rfl, hbs, hcs⟩ := HR.out (by omega)
      have hcell : wr.cell? ⟨bs, os + k, none⟩ = some (.int .i64 rs[k]) := (hbw.cell (p := ⟨bs, os + k, none⟩) hbs).trans (hcs k _ (List.getElem?_eq_getElem hlt))
      have HK := hid (meet_any h M rs[k] (w.heap.size + 1) (w.heap.size + 1 + 1 + 1) (w.heap.size + 1) A1 c1 (w.heap.size + 1 + 1) wr hM (HV.out _ (List.getElem_mem hlt)) (met256 hmet HM.out))
      have HMET := hid hmet
      have HRT := hid hroots
      clear hM hmet hroots hcs hbw hbox
      go_wp2_with (first | (go_at_call 88; refine HK.out.mono ?_; rintro e w' ⟨rfl, A2, c2, hM2, hb2, hx2⟩))
      go_roundw
      case rel =>
        refine ⟨k + 1, _, A2, c2, by omega, by go_num, hM2, HMET.out.meet fun hrb => .root _ (List.getElem_mem hlt) hrb, fun j v hj hjv => ?_, hx2 _ _ _ (.inl rfl) HBX.out, HW.out.trans (hb2.mono (by omega))⟩
        by_cases hjk : j < k
        · exact (HRT.out j v hjk hjv).meet
        · obtain rfl : j = k := by omega
          rw [List.getElem?_eq_getElem hlt] at hjv
          obtain rfl : rs[j] = v := Option.some.inj hjv
          exact meetL_self
      case measure => simp [intOf]; omega
    · have hall : ∀ v ∈ rs, MetV h M v := fun v hv => by
        obtain ⟨j, hj, rfl⟩ := List.getElem_of_mem hv
        exact hroots j _ (by omega) (List.getElem?_eq_getElem hj)
      have HAL := hid hall
      clear hroots hall hbw hbox
      go_wp2
      go_loopw [10] (fun i wr => ∃ (k : Nat) (M : List Nat) (A1 : Option Addr) (c1 : Nat), k ≤ M.length ∧ i = .int .i64 k ∧ MeetS wr (w.heap.size + 1) h.objs.length (w.heap.size + 1) (w.heap.size + 1 + 1 + 1) M A1 c1 (w.heap.size + 1 + 1) ∧ Met h rs M ∧ (∀ v ∈ rs, MetV h M v) ∧ Done h M k ∧ Lies wr w.heap.size 24 #[Value.slice A h.objs.length c, Value.int .i64 h.cap, Value.int .i64 h.last] ∧ Below w.heap.size w wr) (fun i _ => h.objs.length - (intOf i).toNat)
      case atStart => exact ⟨0, M, A1, c1, Nat.zero_le _, rfl, hM, hmet, HAL.out, fun j i o hj => by omega, HBX.out, HW.out⟩
      case round =>
        clear hM hmet
        obtain ⟨k, M, A1, c1, hk, rfl, hM, hmet, hroots, hdone, hbox, hbw⟩ := hrel
        have HW := hid hbw
        have HBX := hid hbox
        have x0 := hbox.cell 0
        have m0 := hM.mb.cell 0
        simp only [List.getElem?_toArray, List.getElem?_cons_zero] at x0 m0
        by_cases hlt : k < M.length
        · obtain ⟨i, hi⟩ : ∃ i, i = M[k] := ⟨_, rfl⟩
          have hik : M[k]? = some i := by rw [hi]; exact List.getElem?_eq_getElem hlt
          have hin : i < h.objs.length := hmet.lt (by rw [hi]; exact List.getElem_mem hlt)
          obtain ⟨ga, ca, hva, hga, hgl⟩ := hM.mrow.form (by omega)
          simp only [Value.slice.injEq, true_and] at hva
          obtain ⟨rfl, rfl⟩ := hva
          have mk := hM.mrow.cellAt k (by omega)
          rw [List.getElem?_map, hik] at mk
          simp only [Option.map_some, intN] at mk
          obtain ⟨b, off, rfl, hb, hc⟩ := HS.out (by omega)
          have hoi := List.getElem?_eq_getElem hin
          obtain ⟨S, ds, hob, hin2, hsd, -⟩ := hc i _ hoi
          have hok := may_all HM.out _ (List.getElem_mem hin)
          obtain ⟨o, ho⟩ : ∃ o, o = h.objs[i] := ⟨_, rfl⟩
          rw [← ho] at hob hin2 hsd hok hoi
          have hol := (kind_len (ob_kind hok)).1
          obtain ⟨c0, c1', c2, c3, c4, c5⟩ := hob.below hb hbw
          have hall := (ob_vals hok)
          have HI := hid hin2
          have HME := hid hM
          have HMET := hid hmet
          have HRT := hid hroots
          have HDN := hid hdone
          have HOI := hid hoi
          have HIK := hid hik
          have HVA := hid hall
          have HKB := hid (Lies.new wr 39 #[.int .i64 o.cls, .int .i64 o.kind, .slice S o.slots.length ds, .string o.text, .int .i64 o.bits, .int .i64 o.hash])
          have l0 : w.heap.size < wr.heap.size := hbox.lt
          have l1 : w.heap.size + 1 < wr.heap.size := hM.mb.lt
          have l2 : b < wr.heap.size := Nat.lt_of_lt_of_le hb hbw.size
          clear hM hmet hroots hdone hc hob hin2 hbw hbox ho hoi hok hik hi hall
          go_wp2
          go_region
          obtain ⟨w1, hw1⟩ : ∃ w1, w1 = (wr.alloc (.cells #[.int .i64 o.cls, .int .i64 o.kind, .slice S o.slots.length ds, .string o.text, .int .i64 o.bits, .int .i64 o.hash] 39)).drew := ⟨_, rfl⟩
          rw [← hw1]
          have hB1 : Below wr.heap.size wr w1 := by rw [hw1]; exact (below_alloc wr _).drew
          have hO1 : Lies w1 wr.heap.size 39 #[.int .i64 o.cls, .int .i64 o.kind, .slice S o.slots.length ds, .string o.text, .int .i64 o.bits, .int .i64 o.hash] := by rw [hw1]; exact HKB.out.drew
          have hM1 : MeetS w1 (w.heap.size + 1) h.objs.length (w.heap.size + 1) (w.heap.size + 1 + 1 + 1) M (some ⟨ga, 0, none⟩) c1 (w.heap.size + 1 + 1) := HME.out.later hB1
          have HX1 := hid (HBX.out.later hB1)
          have HW1 := hid (HW.out.trans (hB1.mono HW.out.size))
          clear hw1 HKB x0 m0 mk c0 c1' c2 c3 c4 c5 l0 l1 l2 HME
          have HK1 := hid (meet_any h M o.cls (w.heap.size + 1) (w.heap.size + 1 + 1 + 1) (w.heap.size + 1) _ c1 (w.heap.size + 1 + 1) w1 hM1 (ref_has HVA.out.1) (met256 HMET.out HM.out))
          have HO1 := hid hO1
          have y0 := hO1.cell 0
          simp only [List.getElem?_toArray, List.getElem?_cons_zero] at y0
          clear hO1 hM1 hB1
          go_wp2_with fail
          refine HK1.out.mono ?_
          rintro e w2 ⟨rfl, A2, c2, hM2, hb2, hx2⟩
          have hO2 := hx2 _ _ _ (.inr rfl) HO1.out
          have y2 := hO2.cell 2
          simp only [List.getElem?_toArray, List.getElem?_cons_zero, List.getElem?_cons_succ] at y2
          have HO2 := hid hO2
          have HX2 := hid (hx2 _ _ _ (.inl rfl) HX1.out)
          have HW2 := hid (HW1.out.trans (hb2.mono (Nat.le_succ _)))
          have HM2 := hid hM2
          have hM2' : Met h rs (meetL h M o.cls) := HMET.out.meet fun hrb => .step i o _ (HMET.out.sound i (List.mem_of_getElem? HIK.out)) HOI.out (by simp) hrb
          have HMT2 := hid hM2'
          clear hM2 hb2 hx2 hO2 hM2' y0
          go_wp2_with fail
          go_loopw [50] (fun i' wr' => ∃ (j : Nat) (M' : List Nat) (A1 : Option Addr) (c1 : Nat), j ≤ o.slots.length ∧ i' = .int .i64 j ∧ MeetS wr' (w.heap.size + 1) h.objs.length (w.heap.size + 1) (w.heap.size + 1 + 1 + 1) M' A1 c1 (w.heap.size + 1 + 1) ∧ Met h rs M' ∧ (∀ v ∈ rs, MetV h M' v) ∧ Done h M' k ∧ M'[k]? = some i ∧ MetV h M' o.cls ∧ (∀ l v, l < j → o.slots[l]? = some v → MetV h M' v) ∧ Lies wr' w.heap.size 24 #[Value.slice (some ⟨b, off, none⟩) h.objs.length c, Value.int .i64 h.cap, Value.int .i64 h.last] ∧ Lies wr' wr.heap.size 39 #[.int .i64 o.cls, .int .i64 o.kind, .slice S o.slots.length ds, .string o.text, .int .i64 o.bits, .int .i64 o.hash] ∧ Below w.heap.size w wr') (fun i' _ => o.slots.length - (intOf i').toNat)
          case atStart =>
            refine ⟨0, _, A2, c2, Nat.zero_le _, rfl, HM2.out, HMT2.out, fun v hv => (HRT.out v hv).meet, HDN.out.meet (by omega) _, meetL_get HIK.out, meetL_self, fun l v hl => by omega, HX2.out, HO2.out, HW2.out⟩
          case round =>
            obtain ⟨j, M', A3, c3, hj, rfl, hM3, hmet3, hroots3, hdone3, hik3, hcls3, hsl3, hbox3, hob3, hbw3⟩ := hrel
            have HX3 := hid hbox3
            have HO3 := hid hob3
            have HW3 := hid hbw3
            by_cases hjl : j < o.slots.length
            · obtain ⟨bs, os, rfl, hbs, hcs⟩ := HI.out (by omega)
              have hcell : wr.cell? ⟨bs, os + j, none⟩ = some (.int .i64 o.slots[j]) := (hbw3.cell (p := ⟨bs, os + j, none⟩) hbs).trans (hcs j _ (List.getElem?_eq_getElem hjl))
              have HK3 := hid (meet_any h M' o.slots[j] (w.heap.size + 1) (w.heap.size + 1 + 1 + 1) (w.heap.size + 1) A3 c3 (w.heap.size + 1 + 1) wr hM3 (HVA.out.2 _ (List.getElem_mem hjl)) (met256 hmet3 HM.out))
              have HMET3 := hid hmet3
              have HRT3 := hid hroots3
              have HDN3 := hid hdone3
              have HIK3 := hid hik3
              have HCL3 := hid hcls3
              have HSL3 := hid hsl3
              clear hM3 hmet3 hroots3 hdone3 hik3 hcls3 hsl3 hcs hbox3 hob3 hbw3
              go_wp2_with fail
              refine HK3.out.mono ?_
              rintro e w4 ⟨rfl, A4, c4, hM4, hb4, hx4⟩
              have HM4 := hid hM4
              have HB4 := hid hb4
              have HX4 := hid hx4
              clear hM4 hb4 hx4
              go_wp2_with fail
              go_roundw
              case rel =>
                have hkl : k < M'.length := (List.getElem?_eq_some_iff.1 HIK3.out).1
                refine ⟨j + 1, _, A4, c4, by omega, by go_num, HM4.out, HMET3.out.meet fun hrb => .step i o _ (HMET3.out.sound i (List.mem_of_getElem? HIK3.out)) HOI.out (List.mem_cons_of_mem _ (List.getElem_mem hjl)) hrb, fun v hv => (HRT3.out v hv).meet, HDN3.out.meet (by omega) _, meetL_get HIK3.out, HCL3.out.meet, fun l v hl hlv => ?_, HX4.out _ _ _ (.inl rfl) HX3.out, HX4.out _ _ _ (.inr rfl) HO3.out, HW3.out.trans (HB4.out.mono (by omega))⟩
                by_cases hlj : l < j
                · exact (HSL3.out l v hlj hlv).meet
                · obtain rfl : l = j := by omega
                  rw [List.getElem?_eq_getElem hjl] at hlv
                  obtain rfl : o.slots[l] = v := Option.some.inj hlv
                  exact meetL_self
              case measure => simp [intOf]; omega
            · have hkl : k < M'.length := (List.getElem?_eq_some_iff.1 hik3).1
              have hd : Done h M' (k + 1) := fun q i' o' hq hqi ho' v hv => by
                by_cases hqk : q < k
                · exact hdone3 q i' o' hqk hqi ho' v hv
                · obtain rfl : q = k := by omega
                  rw [hik3] at hqi
                  obtain rfl : i = i' := Option.some.inj hqi
                  rw [HOI.out] at ho'
                  obtain rfl : o = o' := Option.some.inj ho'
                  rcases List.mem_cons.1 hv with rfl | hv
                  · exact hcls3
                  · obtain ⟨l, hl, rfl⟩ := List.getElem_of_mem hv
                    exact hsl3 l _ (by omega) (List.getElem?_eq_getElem hl)
              have HD := hid hd
              have HRT3 := hid hroots3
              have HMET3 := hid hmet3
              have HM3 := hid hM3
              have hlen := hmet3.len
              clear hM3 hmet3 hroots3 hdone3 hik3 hcls3 hsl3 hbox3 hob3 hbw3 hd
              go_wp2_with fail
              go_roundw
              case rel => exact ⟨k + 1, M', A3, c3, by omega, by go_num, HM3.out, HMET3.out, HRT3.out, HD.out, HX3.out, HW3.out⟩
              case measure => simp [intOf]; omega
        · have hkn : k = M.length := by omega
          have HME := hid hM
          have HMET := hid hmet
          have HALL := hid (met_all hmet hroots (by rw [← hkn]; exact hdone))
          clear hM hmet hroots hdone hbox hbw x0
          go_wp2_with fail
          go_ret
          exact ⟨M, A1, c1, rfl, own_lower HME.out.mrow (Nat.le_succ _), HMET.out.nodup, met256 HMET.out HM.out, HALL.out, HW.out⟩
end Go.Proofs.Ytnilempeldlieaa
namespace Go.Proofs.Ytnilempeldlieaa
open Go.RowKit
set_option maxRecDepth 100000
theorem misval_any (h : Hp) (v : Int) (A : Option Addr) (c : Nat) (w : World) :
    Calls Try.prog 77 #[.agg #[.slice A h.objs.length c, .int .i64 h.cap, .int .i64 h.last], .int .i64 v] w fun e w' => e = .returned (.bool (hasB h.objs.length v)) ∧ Below w.heap.size w w' := by
  have HB := hid (below_alloc w (.cells #[Value.slice A h.objs.length c, Value.int .i64 h.cap, Value.int .i64 h.last] 24))
  cases ha : atB v
  · have e2 : hasB h.objs.length v = nB v := by simp [hasB, refB, ha]
    rw [e2]; clear e2
    go_enter Try.func77, Try.ntmps77
    go_wp2_with (first | (go_at_call 70; refine (at_any _ _).mono ?_; rintro e w' ⟨rfl, rfl⟩) | (go_at_call 86; refine (vmay_any _ _).mono ?_; rintro e w' ⟨rfl, rfl⟩))
    go_ret
    refine ⟨?_, HB.out⟩
    refine congrArg (fun x => Ending.returned (Value.bool x)) ?_
    simp
  · have hn : nB v = false := by
      cases hn : nB v
      · rfl
      · have := nB_iff.1 hn; have := atB_iff.1 ha; omega
    have e2 : hasB h.objs.length v = decide (atV v < (h.objs.length : Int)) := by simp [hasB, refB, ha, hn]
    rw [e2]; clear e2
    go_enter Try.func77, Try.ntmps77
    go_wp2_with (first | (go_at_call 70; refine (at_any _ _).mono ?_; rintro e w' ⟨rfl, rfl⟩) | (go_at_call 86; refine (vmay_any _ _).mono ?_; rintro e w' ⟨rfl, rfl⟩))
    go_ret
    exact ⟨rfl, HB.out⟩
theorem live1_any (h : Hp) (x : Int) (A : Option Addr) (c b : Nat) (w : World) (hb : BoxH w b h A c) :
    Calls Try.prog 76 #[.int .i64 x, .pointer (some ⟨b, 0, none⟩)] w fun e w' => e = .returned (.bool (!hasB h.objs.length x)) ∧ Below w.heap.size w w' := by
  obtain ⟨h0, h1, h2⟩ := hb
  go_enter Try.func76, Try.ntmps76
  go_wp2_with (first | (go_at_call 77; refine (misval_any h _ A c _).mono ?_; rintro e w' ⟨rfl, hb⟩))
  go_ret
  exact ⟨rfl, hb⟩
theorem idxr_any (h : Hp) (A : Option Addr) (c b : Nat) (S : Option Addr) (xs : List Int) (d : Nat) (w : World) (hb : BoxH w b h A c) (hlt : b < w.heap.size) (hs : IntsR w S xs) (hl : xs.length ≤ 9223372036854775807) :
    Calls Try.prog 83 #[.slice S xs.length d, .func (.func 76) #[] #[.pointer (some ⟨b, 0, none⟩)]] w fun e w' => ∃ n : Int, e = .returned (.int .i64 n) ∧ (n < 0 ↔ xs.all (hasB h.objs.length) = true) ∧ Below w.heap.size w w' := by
  go_enter Try.func83, Try.ntmps83
  go_wp2
  go_loopw [8] (fun i wr => ∃ k : Nat, k ≤ xs.length ∧ i = .int .i64 k ∧ (xs.take k).all (hasB h.objs.length) = true ∧ Below w.heap.size w wr) (fun i _ => xs.length - (intOf i).toNat)
  case atStart => exact ⟨0, Nat.zero_le _, rfl, rfl, Below.refl _ _⟩
  case round =>
    obtain ⟨k, hk, rfl, hall, hbw⟩ := hrel
    by_cases hlt2 : k < xs.length
    · obtain ⟨bs, os, rfl, hbs, hcs⟩ := hs (by omega)
      have hcell : wr.cell? ⟨bs, os + k, none⟩ = some (.int .i64 xs[k]) := (hbw.cell (p := ⟨bs, os + k, none⟩) hbs).trans (hcs k _ (List.getElem?_eq_getElem hlt2))
      have hbr := hid (hb.below hlt hbw)
      have htk : (xs.take (k + 1)).all (hasB h.objs.length) = ((xs.take k).all (hasB h.objs.length) && hasB h.objs.length xs[k]) := by
        rw [List.take_succ_eq_append_getElem hlt2, List.all_append]; simp
      have HT := hid htk
      have HA := hid hall
      have HW := hid hbw
      have HS := hid hs
      clear htk hall hbw hcs hb hs
      cases hv : hasB h.objs.length xs[k]
      · go_wp2_with (first | (go_at_call 76; refine (live1_any h _ A c b _ hbr.out).mono ?_; rintro e w' ⟨rfl, hb⟩))
        go_ret
        refine ⟨k, rfl, ?_, HW.out.trans (hb.mono HW.out.size)⟩
        constructor
        · intro hh; omega
        · intro hh
          have := List.all_eq_true.1 hh xs[k] (List.getElem_mem hlt2)
          rw [hv] at this; cases this
      · go_wp2_with (first | (go_at_call 76; refine (live1_any h _ A c b _ hbr.out).mono ?_; rintro e w' ⟨rfl, hb⟩))
        go_roundw
        case rel => exact ⟨k + 1, by omega, by go_num, by rw [HT.out, HA.out, hv]; rfl, HW.out.trans (hb.mono HW.out.size)⟩
        case measure => simp [intOf]; omega
    · have e : k = xs.length := by omega
      subst e
      have HA := hid hall
      have HW := hid hbw
      clear hall hbw
      go_wp2
      go_ret
      refine ⟨-1, rfl, ⟨fun _ => ?_, fun _ => by omega⟩, HW.out⟩
      have := HA.out
      rwa [List.take_length] at this
theorem conr_any (h : Hp) (A : Option Addr) (c b : Nat) (S : Option Addr) (xs : List Int) (d : Nat) (w : World) (hb : BoxH w b h A c) (hlt : b < w.heap.size) (hs : IntsR w S xs) (hl : xs.length ≤ 9223372036854775807) :
    Calls Try.prog 68 #[.slice S xs.length d, .func (.func 76) #[] #[.pointer (some ⟨b, 0, none⟩)]] w fun e w' => e = .returned (.bool (!xs.all (hasB h.objs.length))) ∧ Below w.heap.size w w' := by
  have K := hid (idxr_any h A c b S xs d w hb hlt hs hl)
  clear hs hl hlt hb
  go_enter Try.func68, Try.ntmps68
  go_wp2_with fail
  refine K.out.mono ?_
  rintro e w' ⟨n, rfl, hn, hb⟩
  have e2 : (!xs.all (hasB h.objs.length)) = decide (0 ≤ n) := by
    cases hx : xs.all (hasB h.objs.length) <;> rw [hx] at hn <;> simp at hn ⊢ <;> omega
  have E2 := hid e2
  clear hn e2 K
  go_wp2
  go_ret
  exact ⟨by rw [E2.out]; rfl, hb⟩

end Go.Proofs.Ytnilempeldlieaa
