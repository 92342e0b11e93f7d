/- Values by a table: the program's and the document's walks. slices.Repeat of one int. mark's closure that meets a value: what is met so far lies in memory of the call's own. -/
import Derived.Test.YtnilempeldlieaaGreatM06
import Derived.Test.YtnilempeldlieaaGreatM03
import Derived.Test.YtnilempeldlieaaGreatZ
import Derived.Laws.CopyOwn
import Derived.Deep.OwnRows
import Derived.Deep.RegionLaw
import Derived.Test.YtnilempeldlieaaGreatM04
import Derived.Test.YtnilempeldlieaaGreatWY
namespace Go.Proofs.YtnilempeldlieaaGreat
open Go.RowKit
set_option maxRecDepth 100000
set_option maxHeartbeats 1000000 in
theorem value_any (t : List Int) (v : Int) (A : Option Addr) (c : Nat) (w : World) (hs : IntsR w A t) (hl : t.length ≤ 9223372036854775807) :
    Calls Tryz.prog 98 #[.slice A t.length c, .int .i64 v] w fun e w' => e = .returned (.tuple #[.int .i64 (vaV t v), .bool (vaB t v)]) ∧ w' = w := by
  have HS := hid hs
  clear hs
  cases hn : nB v
  · cases ha : atB v
    · have e1 : vaV t v = 0 := by unfold vaV; rw [hn, ha]; rfl
      have e2 : vaB t v = false := by unfold vaB; rw [hn, ha]; rfl
      rw [e1, e2]; clear e1 e2
      go_enter Tryz.func98, Tryz.ntmps98
      go_wp2_with fail
      refine (n_any _ _).mono ?_
      rintro e w1 ⟨rfl, rfl⟩
      rw [hn]
      go_wp2_with fail
      refine (at_any _ _).mono ?_
      rintro e w1 ⟨rfl, rfl⟩
      rw [ha]
      go_wp2_with fail
      go_ret2
      exact ⟨rfl, rfl⟩
    · have hv := atV_lt ha
      obtain ⟨i, hi⟩ : ∃ i : Nat, atV v = i := ⟨(atV v).toNat, by omega⟩
      by_cases hlt : i < t.length
      · have hd : decide (atV v < t.length) = true := by rw [hi]; simpa using hlt
        have hd0 : t.getD i 0 = t[i] := by rw [List.getD_eq_getElem?_getD, List.getElem?_eq_getElem hlt]; rfl
        have e1 : vaV t v = reV t[i] := by
          unfold vaV; rw [hn, ha, hd, hi, Int.toNat_natCast, hd0]; rfl
        have e2 : vaB t v = nuB t[i] := by unfold vaB; rw [hn, ha, hd, hi, Int.toNat_natCast, hd0]; rfl
        rw [e1, e2]; clear e1 e2 hd hd0
        obtain ⟨b, o, rfl, hb, hc⟩ := HS.out (by omega)
        have hcell := hc i _ (List.getElem?_eq_getElem hlt)
        clear hc
        go_enter Tryz.func98, Tryz.ntmps98
        go_wp2_with fail
        refine (n_any _ _).mono ?_
        rintro e w1 ⟨rfl, rfl⟩
        rw [hn]
        go_wp2_with fail
        refine (at_any _ _).mono ?_
        rintro e w1 ⟨rfl, rfl⟩
        rw [ha, hi]
        go_wp2_with fail
        refine (ref_any _ _).mono ?_
        rintro e w1 ⟨rfl, rfl⟩
        go_wp2_with fail
        go_ret2
        exact ⟨rfl, rfl⟩
      · have hd : decide (atV v < t.length) = false := by rw [hi]; simpa using hlt
        have e1 : vaV t v = 0 := by unfold vaV; rw [hn, ha, hd]; rfl
        have e2 : vaB t v = false := by unfold vaB; rw [hn, ha, hd]; rfl
        rw [e1, e2]; clear e1 e2 hd
        go_enter Tryz.func98, Tryz.ntmps98
        go_wp2_with fail
        refine (n_any _ _).mono ?_
        rintro e w1 ⟨rfl, rfl⟩
        rw [hn]
        go_wp2_with fail
        refine (at_any _ _).mono ?_
        rintro e w1 ⟨rfl, rfl⟩
        rw [ha, hi]
        go_wp2_with fail
        go_ret2
        exact ⟨rfl, rfl⟩
  · have e1 : vaV t v = v := (va_small hn).1
    have e2 : vaB t v = true := (va_small hn).2
    rw [e1, e2]; clear e1 e2
    go_enter Tryz.func98, Tryz.ntmps98
    go_wp2_with fail
    refine (n_any _ _).mono ?_
    rintro e w1 ⟨rfl, rfl⟩
    rw [hn]
    go_wp2_with fail
    go_ret2
    exact ⟨rfl, rfl⟩
theorem rref1_any (n : Int) (w : World) : Calls Tryz.prog 165 #[.int .i64 n] w fun e w' => e = .returned (.tuple #[.int .i64 (reV n), .bool (nuB n)]) ∧ w = w' := by
  have F : nuB n = true ∧ reV n = 2 * n ∧ 0 ≤ n ∧ n < 1048576 ∨ nuB n = false ∧ reV n = 0 ∧ n < 0 ∨ nuB n = false ∧ reV n = 0 ∧ 0 ≤ n ∧ 1048576 ≤ n := by
    cases h : nuB n
    · have := nuB_no.1 h; simp [reV, h]; omega
    · have hb := nuB_iff.1 h
      exact .inl ⟨rfl, by unfold reV; rw [if_pos h], hb.1, hb.2⟩
  rcases F with ⟨h, e, b1, b2⟩ | ⟨h, e, b1⟩ | ⟨h, e, b1, b2⟩
  all_goals
    rw [h, e]; clear h e
    go_enter Tryz.func165, Tryz.ntmps165
    go_wp2
    all_goals (go_ret2; exact ⟨rfl, rfl⟩)
set_option maxHeartbeats 1000000 in
theorem rvalue_any (t : List Int) (v : Int) (A : Option Addr) (c : Nat) (w : World) (hs : IntsR w A t) (hl : t.length ≤ 9223372036854775807) :
    Calls Tryz.prog 102 #[.slice A t.length c, .int .i64 v] w fun e w' => e = .returned (.tuple #[.int .i64 (vaV t v), .bool (vaB t v)]) ∧ w' = w := by
  have HS := hid hs
  clear hs
  cases hn : nB v
  · cases ha : atB v
    · have e1 : vaV t v = 0 := by unfold vaV; rw [hn, ha]; rfl
      have e2 : vaB t v = false := by unfold vaB; rw [hn, ha]; rfl
      rw [e1, e2]; clear e1 e2
      go_enter Tryz.func102, Tryz.ntmps102
      go_wp2_with fail
      refine (rn_any _ _).mono ?_
      rintro e w1 ⟨rfl, rfl⟩
      rw [hn]
      go_wp2_with fail
      refine (rat_any _ _).mono ?_
      rintro e w1 ⟨rfl, rfl⟩
      rw [ha]
      go_wp2_with fail
      go_ret2
      exact ⟨rfl, rfl⟩
    · have hv := atV_lt ha
      obtain ⟨i, hi⟩ : ∃ i : Nat, atV v = i := ⟨(atV v).toNat, by omega⟩
      by_cases hlt : i < t.length
      · have hd : decide (atV v < t.length) = true := by rw [hi]; simpa using hlt
        have hd0 : t.getD i 0 = t[i] := by rw [List.getD_eq_getElem?_getD, List.getElem?_eq_getElem hlt]; rfl
        have e1 : vaV t v = reV t[i] := by
          unfold vaV; rw [hn, ha, hd, hi, Int.toNat_natCast, hd0]; rfl
        have e2 : vaB t v = nuB t[i] := by unfold vaB; rw [hn, ha, hd, hi, Int.toNat_natCast, hd0]; rfl
        rw [e1, e2]; clear e1 e2 hd hd0
        obtain ⟨b, o, rfl, hb, hc⟩ := HS.out (by omega)
        have hcell := hc i _ (List.getElem?_eq_getElem hlt)
        clear hc
        go_enter Tryz.func102, Tryz.ntmps102
        go_wp2_with fail
        refine (rn_any _ _).mono ?_
        rintro e w1 ⟨rfl, rfl⟩
        rw [hn]
        go_wp2_with fail
        refine (rat_any _ _).mono ?_
        rintro e w1 ⟨rfl, rfl⟩
        rw [ha, hi]
        go_wp2_with fail
        refine (rref1_any _ _).mono ?_
        rintro e w1 ⟨rfl, rfl⟩
        go_wp2_with fail
        go_ret2
        exact ⟨rfl, rfl⟩
      · have hd : decide (atV v < t.length) = false := by rw [hi]; simpa using hlt
        have e1 : vaV t v = 0 := by unfold vaV; rw [hn, ha, hd]; rfl
        have e2 : vaB t v = false := by unfold vaB; rw [hn, ha, hd]; rfl
        rw [e1, e2]; clear e1 e2 hd
        go_enter Tryz.func102, Tryz.ntmps102
        go_wp2_with fail
        refine (rn_any _ _).mono ?_
        rintro e w1 ⟨rfl, rfl⟩
        rw [hn]
        go_wp2_with fail
        refine (rat_any _ _).mono ?_
        rintro e w1 ⟨rfl, rfl⟩
        rw [ha, hi]
        go_wp2_with fail
        go_ret2
        exact ⟨rfl, rfl⟩
  · have e1 : vaV t v = v := (va_small hn).1
    have e2 : vaB t v = true := (va_small hn).2
    rw [e1, e2]; clear e1 e2
    go_enter Tryz.func102, Tryz.ntmps102
    go_wp2_with fail
    refine (rn_any _ _).mono ?_
    rintro e w1 ⟨rfl, rfl⟩
    rw [hn]
    go_wp2_with fail
    go_ret2
    exact ⟨rfl, rfl⟩
end Go.Proofs.YtnilempeldlieaaGreat
namespace Go.Proofs.YtnilempeldlieaaGreat
open Go.RowKit
set_option maxRecDepth 100000
theorem int_size : (Tryz.prog.info? 3).map (·.size) = some 1 := by kernel_rfl
theorem mul_one_any (n : Nat) (hn : n ≤ 9223372036854775807) (w : World) : Calls Tryz.prog 163 #[.int .u64 1, .int .u64 n] w fun e w' => e = .returned (.tuple #[.int .u64 0, .int .u64 n]) ∧ w' = w := by
  have := Tryz.bits_Mul 1 n (by omega) (by omega) w
  rw [show 1 * n / 18446744073709551616 = 0 by omega, show 1 * n % 18446744073709551616 = n by omega] at this
  exact this
theorem rep_splice {α : Type} (x z : α) {k m n : Nat} (h : k + m ≤ n) : splice (List.replicate k x ++ List.replicate (n - k) z) k (List.replicate m x) = List.replicate (k + m) x ++ List.replicate (n - (k + m)) z := by
  unfold splice
  rw [List.take_left' (by simp), List.length_replicate, List.drop_append, List.drop_eq_nil_of_le (by simp), List.nil_append, List.length_replicate, List.drop_replicate, ← List.append_assoc, List.replicate_append_replicate]
  congr 2; omega
set_option maxHeartbeats 2000000 in
theorem repeat_any (x : Int) (n : Nat) (hn : n ≤ 256) (A : Option Addr) (c : Nat) (w : World) (hs : IntsR w A [x]) :
    Calls Tryz.prog 97 #[.slice A 1 c, .int .i64 n] w fun e w' => ∃ A' c', e = .returned (.slice A' n c') ∧ w'.ownsRow w.heap.size 3 1 (.slice A' n c') n ((List.replicate n x).map (Value.int .i64)) ∧ Below w.heap.size w w' := by
  obtain ⟨b, o, rfl, hb, hc⟩ := hs (by simp)
  have hx := hc 0 x rfl
  have hmk := run_make_row' (P := Tryz.prog) 34 3 (.int .i64 0) 8 Tryz.underlying34 int_info rfl .i64 .i64 n (by omega) (by omega)
  have HX := hid hx
  obtain ⟨q, hq⟩ : ∃ q, q = Nat.min 1 n := ⟨_, rfl⟩
  have hq1 : q ≤ 1 := by rw [hq]; exact Nat.min_le_left _ _
  have hqn : q ≤ n := by rw [hq]; exact Nat.min_le_right _ _
  have hq0 : 0 < n → 0 < q := fun h => by rw [hq]; exact Nat.lt_min.2 ⟨Nat.one_pos, h⟩
  have HQ := hid hq
  have hrow : (w.alloc (.cells (madeCells #[.int .i64 0] n) 3)).heap[w.heap.size]? = some (.cells (List.replicate n (Value.int .i64 0)).toArray 3 (0, 0)) := by
    have := heap_alloc_new w (.cells (madeCells #[.int .i64 0] n) 3)
    rw [this, ← toList_madeCells_one, Array.toArray_toList]
  have HROW := hid hrow
  have HPOS : Hid (∀ j v, (List.replicate q (Value.int .i64 x))[j]? = some v → (w.alloc (.cells (madeCells #[.int .i64 0] n) 3)).cell? ((⟨b, o, none⟩ : Addr).add j) = some v) := by
    intro j v hj
    have h1 := (List.getElem?_eq_some_iff.1 hj).1
    rw [List.length_replicate] at h1
    obtain rfl : j = 0 := by omega
    rw [List.getElem?_replicate, if_pos h1] at hj
    rw [Addr.add_lit, ← Option.some.inj hj]
    exact cell_old HX.out
  have HBA := hid (below_alloc w (.cells (madeCells #[.int .i64 0] n) 3))
  clear hx hc hs hb hrow hq
  go_enter Tryz.func97, Tryz.ntmps97
  go_wp2_with fail
  refine (mul_one_any n (by omega) _).mono ?_
  rintro e w1 ⟨rfl, rfl⟩
  go_upto_region 7 with fail
  go_wp2_with (refine wpList_copy_splice rfl (.tmp 31) (.tmp 32) 34 34 rfl 3 Tryz.underlying34 int_size _ _ _ _ _ _ rfl rfl w1.heap.size 0 (List.replicate n (Value.int .i64 0)) 3 HROW.out (List.replicate q (Value.int .i64 x)) (by rw [List.length_replicate]; exact HQ.out) (fun _ => ⟨rfl, _, rfl, HPOS.out⟩) (by simpa using hqn) (by intro v hv; rw [List.eq_of_mem_replicate hv]; rfl) w1.heap.size w1 HBA.out (Nat.le_refl _) ?_)
  intro w2 HG HB2
  have HB2 := hid HB2
  have hsp := rep_splice (Value.int .i64 x) (Value.int .i64 0) (k := 0) (m := q) (n := n) (by omega)
  simp only [List.replicate_zero, List.nil_append, Nat.sub_zero, Nat.zero_add] at hsp
  rw [hsp] at HG
  clear hsp
  go_wp2_with fail
  go_loopw [8] (fun i wr => ∃ k : Nat, (0 < n → 0 < k) ∧ k ≤ n ∧ i = .int .i64 k ∧ wr.heap[w1.heap.size]? = some (.cells (List.replicate k (Value.int .i64 x) ++ List.replicate (n - k) (Value.int .i64 0)).toArray 3 (0, 0)) ∧ Below w1.heap.size w1 wr) (fun i _ => n - (intOf i).toNat)
  case atStart => exact ⟨q, hq0, hqn, by first | rfl | simp, HG.out, HB2.out⟩
  case round =>
    clear HG HB2
    obtain ⟨k, hk0, hk, rfl, hrow, hbw⟩ := hrel
    have HR := hid hrow
    have HW := hid hbw
    have HK0 := hid hk0
    clear hrow hbw hk0
    by_cases hlt : k < n
    · obtain ⟨m, hm⟩ : ∃ m, m = Nat.min k (n - k) := ⟨_, rfl⟩
      have hm1 : m ≤ k := by rw [hm]; exact Nat.min_le_left _ _
      have hm2 : m ≤ n - k := by rw [hm]; exact Nat.min_le_right _ _
      have hm0 : 0 < m := by rw [hm]; exact Nat.lt_min.2 ⟨HK0.out (by omega), by omega⟩
      have HM := hid hm
      clear hm
      have HRD : Hid (wr.drew.heap[w1.heap.size]? = some (.cells (List.replicate k (Value.int .i64 x) ++ List.replicate (n - k) (Value.int .i64 0)).toArray 3 (0, 0))) := HR.out
      have HWD := hid HW.out.drew
      have HPS : Hid (∀ j v, (List.replicate m (Value.int .i64 x))[j]? = some v → wr.drew.cell? ((⟨w1.heap.size, 0, none⟩ : Addr).add j) = some v) := by
        intro j v hj
        have h1 := (List.getElem?_eq_some_iff.1 hj).1
        rw [List.length_replicate] at h1
        rw [List.getElem?_replicate, if_pos h1] at hj
        rw [Addr.add_lit, Nat.zero_add, ← Option.some.inj hj]
        simp only [World.cell?, HRD.out]
        have hjk : j < k := by omega
        simp [List.getElem?_append, hjk]
      go_wp2_with fail
      go_region_law (refine step_copy_splice rfl (.tmp 41) (.tmp 44) 34 34 rfl 3 Tryz.underlying34 int_size (some ⟨w1.heap.size, k, none⟩) (some ⟨w1.heap.size, 0, none⟩) (n - k) (n - k) k n (by simp [Act.eval, Act.put]; omega) (by simp [Act.eval, Act.put]) w1.heap.size k (List.replicate k (Value.int .i64 x) ++ List.replicate (n - k) (Value.int .i64 0)) 3 HRD.out (List.replicate m (Value.int .i64 x)) (by rw [List.length_replicate]; exact HM.out) (fun _ => ⟨rfl, _, rfl, HPS.out⟩) (by simp; omega) (by intro v hv; rw [List.eq_of_mem_replicate hv]; rfl) w1.heap.size w1 HWD.out (Nat.le_refl _) ?_; intro w4 hg4 hb4)
      rw [rep_splice _ _ (by omega)] at hg4
      have hwr : IntKind.i64.wrap ((k : Int) + (m : Int)) = (k : Int) + (m : Int) := by rw [IntKind.wrap_i64]; omega
      rw [hwr]
      have HB4 := hid hb4
      clear hb4 hwr
      go_wp2_with fail
      go_roundw
      case rel => exact ⟨k + m, fun _ => by omega, by omega, by go_num, hg4.out, HB4.out⟩
      case measure => simp [intOf]; omega
    · obtain rfl : k = n := by omega
      go_wp2_with fail
      go_ret
      have hR := HR.out
      rw [Nat.sub_self, List.replicate_zero, List.append_nil] at hR
      exact ⟨some ⟨w1.heap.size, 0, none⟩, k, rfl, ⟨by simp, .inr ⟨w1.heap.size, k, (List.replicate k (Value.int .i64 x)).toArray, rfl, Nat.le_refl _, hR, Nat.le_refl _, by unfold maxLen; omega, by simp, by simp⟩⟩, HW.out⟩
end Go.Proofs.YtnilempeldlieaaGreat
namespace Go.Proofs.YtnilempeldlieaaGreat
open Go.RowKit
set_option maxRecDepth 100000
def intN (i : Nat) : Value := .int .i64 (i : Int)
def marksOf (n : Nat) (M : List Nat) : List Value := (List.range n).map fun i => Value.bool (decide (i ∈ M))
/-- the met list's box is block bm, the marks' box is block bi -/
structure MeetS (w : World) (base : Nat) (n : Nat) (bm bi : Nat) (M : List Nat) (A : Option Addr) (c g : Nat) : Prop where
  mb : Lies w bm 34 #[.slice A M.length c]
  ib : Lies w bi 55 #[.slice (some ⟨g, 0, none⟩) n n]
  mrow : w.ownsRow base 3 1 (.slice A M.length c) M.length (M.map intN)
  irow : w.ownsRow base 4 1 (.slice (some ⟨g, 0, none⟩) n n) n (marksOf n M)
  mlo : base ≤ bm
  ilo : base ≤ bi
theorem marks_set {n : Nat} {M : List Nat} {i : Nat} (hi : i < n) : (marksOf n M).set i (.bool true) = marksOf n (M ++ [i]) := by
  unfold marksOf
  apply List.ext_getElem?
  intro j
  rw [List.getElem?_set]
  by_cases e : i = j
  · subst e
    rw [if_pos rfl]
    simp [hi]
  · rw [if_neg e]
    by_cases hj : j < n
    · simp [List.getElem?_range hj, Ne.symm e]
    · simp [List.getElem?_eq_none (show (List.range n).length ≤ j by simp; omega)]
/-- blocks that hold heaps, or objects, in boxes stay -/
def Boxes (w w' : World) : Prop := ∀ k t cs, t = 24 ∨ t = 41 → Lies w k t cs → Lies w' k t cs
theorem Boxes.refl (w : World) : Boxes w w := fun _ _ _ _ h => h
theorem Boxes.trans {a b c : World} (h : Boxes a b) (k : Boxes b c) : Boxes a c := fun i t cs ht hl => k i t cs ht (h i t cs ht hl)
theorem Boxes.of_below {w w' : World} (h : Below w.heap.size w w') : Boxes w w' := fun _ _ _ _ hl => hl.later h
theorem meet_no (v : Int) (bm bi : Nat) (w : World) (hv : atB v = false) :
    Calls Tryz.prog 201 #[.int .i64 v, .pointer (some ⟨bi, 0, none⟩), .pointer (some ⟨bm, 0, none⟩)] w fun e w' => e = .returned (.tuple #[]) ∧ w' = w := by
  go_enter Tryz.func201, Tryz.ntmps201
  go_wp2_with (first | (go_at_call 110; refine (at_any _ _).mono ?_; rintro e w' ⟨rfl, rfl⟩))
  refine bodyPost_end (v := .tuple #[]) (by simp [results, Tryz.results201, go_sem]) rfl ?_
  exact ⟨rfl, rfl⟩
set_option maxHeartbeats 2000000 in
theorem meet_yes (n i : Nat) (M : List Nat) (v : Int) (bm bi base : Nat) (A : Option Addr) (c g : Nat) (w : World) (hs : MeetS w base n bm bi M A c g) (hv : atB v = true) (hi : atV v = i) (hin : i < n) (hM : M.length ≤ 256) :
    Calls Tryz.prog 201 #[.int .i64 v, .pointer (some ⟨bi, 0, none⟩), .pointer (some ⟨bm, 0, none⟩)] w fun e w' => e = .returned (.tuple #[]) ∧
      ∃ A' c', MeetS w' base n bm bi (if i ∈ M then M else M ++ [i]) A' c' g ∧ Below base w w' ∧ Boxes w w' := by
  have HS := hid hs
  obtain ⟨mb, ib, mrow, irow, mlo, ilo⟩ := hs
  have b0 := ib.cell 0
  have m0 := mb.cell 0
  simp only [List.getElem?_toArray, List.getElem?_cons_zero] at b0 m0
  have gi := irow.cellAt i (by omega)
  have fi := irow.frozenAt i
  have e : (marksOf n M)[i]? = some (.bool (decide (i ∈ M))) := by simp [marksOf, hin]
  rw [e] at gi
  by_cases hm : i ∈ M
  · rw [if_pos hm]
    simp only [hm, decide_true] at gi
    clear mrow irow mb ib mlo ilo m0 fi e
    go_enter Tryz.func201, Tryz.ntmps201
    go_wp2_with (first | (go_at_call 110; refine (at_any _ _).mono ?_; rintro e w' ⟨rfl, rfl⟩))
    refine bodyPost_end (v := .tuple #[]) (by simp [results, Tryz.results201, go_sem]) rfl ?_
    exact ⟨rfl, A, c, HS.out, Below.refl _ _, Boxes.refl _⟩
  · rw [if_neg hm]
    simp only [hm, decide_false] at gi
    have hgm := hid (own_blk_ne (g := bm) irow mb (by decide))
    have nbg : g ≠ bm := fun e => hgm.out (by simp [Value.ownBlock, e])
    have hgi := hid (own_blk_ne (g := bi) irow ib (by decide))
    have nig : g ≠ bi := fun e => hgi.out (by simp [Value.ownBlock, e])
    have nib : bi ≠ bm := lies_ne ib mb (by decide)
    have fm := mb.frozen 0
    have hgl : base ≤ g := (irow.lt g rfl).1
    have hglt : g < w.heap.size := (irow.lt g rfl).2
    -- behind the mark's store
    have irow2 := (irow.stored i (.bool true)).1
    have mb2 := mb.far (p := ⟨g, i, none⟩) (by exact fun e => nbg e.symm) (.bool true)
    have ib2 := ib.far (p := ⟨g, i, none⟩) (by exact fun e => nig e.symm) (.bool true)
    have hmg : (Value.slice A M.length c).ownBlock ≠ some g := by
      obtain ⟨cur, hl, -⟩ := own_blk irow
      exact own_blk_ne mrow hl (by decide)
    have mrow2 := ownsRow_setCell_other mrow (a := ⟨g, i, none⟩) (by exact hmg) (.bool true)
    have HAL := hid (below_alloc (w.setCell ⟨g, i, none⟩ (.bool true)) (.cells #[.int .i64 i] 3))
    have hsz : (w.setCell ⟨g, i, none⟩ (.bool true)).heap.size = w.heap.size := by simp
    have HI := hid (own_later irow2 HAL.out)
    have HMB := hid (mb2.later HAL.out)
    have HIB := hid (ib2.later HAL.out)
    have HMR := hid (own_later mrow2 HAL.out)
    have HN : Hid (∀ j u, ([.int .i64 i] : List Value)[j]? = some u → ((w.setCell ⟨g, i, none⟩ (.bool true)).alloc (.cells #[.int .i64 i] 3)).cell? ((⟨w.heap.size, 0, none⟩ : Addr).add j) = some u) := by
      intro j u hu
      have := (Lies.new (w.setCell ⟨g, i, none⟩ (.bool true)) 3 #[.int .i64 i]).cell j
      rw [hsz] at this
      rw [Addr.add_lit, Nat.zero_add, this]
      simpa using hu
    have HN1 : Hid (∀ u ∈ ([.int .i64 i] : List Value), u.oneCell' = true) := by
      intro u hu
      obtain rfl : u = .int .i64 i := by simpa using hu
      rfl
    have hbs : base ≤ ((w.setCell ⟨g, i, none⟩ (.bool true)).alloc (.cells #[.int .i64 i] 3)).heap.size := by simp; omega
    obtain ⟨i0, hi0, hz0, hz1, hz2⟩ := info_parts int_info
    have m2 := mb2.cell 0
    simp only [List.getElem?_toArray, List.getElem?_cons_zero] at m2
    clear mrow irow mb ib mlo ilo e irow2 mb2 ib2 mrow2 hmg
    go_enter Tryz.func201, Tryz.ntmps201
    go_wp2_with (first | (go_at_call 110; refine (at_any _ _).mono ?_; rintro e w' ⟨rfl, rfl⟩) | (at_builtin; refine wpList_append_own _ rfl (.tmp 22) (.tmp 24) 34 rfl base 3 i0 (.int .i64 0) 1 8 Tryz.underlying34 hi0 hz0 hz1 hz2 rfl (by decide) _ _ _ rfl HMR.out ⟨w.heap.size, 0, none⟩ 1 1 [.int .i64 i] rfl rfl HN.out HN1.out (by unfold maxLen; omega) (by omega) hbs ?_))
    intro v2 w2 hown2 hgrow2 _
    obtain ⟨A4, c4, rfl⟩ := own_form hown2
    have hrb : ∀ k, (Value.slice A M.length c).ownBlock = some k → base ≤ k := fun k hk => (HMR.out.lt k hk).1
    have nbm := own_blk_ne HMR.out HMB.out (by decide)
    have nbi := own_blk_ne HMR.out HIB.out (by decide)
    have mb3 := HMB.out.grown hgrow2 (fun e => nbm e.symm)
    have ib3 := HIB.out.grown hgrow2 (fun e => nbi e.symm)
    have f3 := mb3.frozen 0
    have m3 := mb3.cell 0
    simp only [List.getElem?_toArray, List.getElem?_cons_zero] at m3
    have HW := hid hown2
    have HG := hid hgrow2
    have HM3 := hid mb3
    have HI3 := hid ib3
    clear hown2 hgrow2 mb3 ib3 nbm nbi
    go_wp2_with fail
    refine bodyPost_end (v := .tuple #[]) (by simp [results, Tryz.results201, go_sem]) rfl ?_
    have hI4 : w2.ownsRow base 4 1 (.slice (some ⟨g, 0, none⟩) n n) n ((marksOf n M).set i (.bool true)) := by
      refine HI.out.kept HG.out (.inr fun e => ?_)
      obtain ⟨cur, hl, -⟩ := own_blk HI.out
      exact own_blk_ne HMR.out hl (by decide) (e.symm.trans rfl)
    have h4 : M.length + 1 = (M ++ [i]).length := by simp
    have hm4 : M.map intN ++ [.int .i64 i] = (M ++ [i]).map intN := by simp [intN]
    refine ⟨rfl, A4, c4, ⟨?_, ?_, ?_, ?_, HS.out.mlo, HS.out.ilo⟩, ?_, ?_⟩
    · rw [← h4]; simpa using HM3.out.set_ 0 (.slice A4 (M.length + 1) c4)
    · exact HI3.out.far (by exact nib) _
    · rw [← h4, ← hm4]
      exact ownsRow_setCell_other HW.out (own_blk_ne HW.out HM3.out (by decide)) _
    · rw [← marks_set hin]
      refine ownsRow_setCell_other hI4 (fun e => ?_) _
      exact nbg (by simpa [Value.ownBlock] using e)
    · have h1 : Below base w (w.setCell ⟨g, i, none⟩ (.bool true)) := (Below.refl _ _).setCell hgl _
      have h2 := (h1.trans (HAL.out.mono (by rw [hsz]; omega))).grown HG.out hbs hrb
      exact h2.setCell HS.out.mlo _
    · intro k t cs ht hl
      have ne1 : k ≠ g := fun e => by
        obtain ⟨cur, hl', -⟩ := own_blk HS.out.irow
        exact lies_ne hl hl' (by rcases ht with rfl | rfl <;> decide) e
      have ne2 : k ≠ bm := fun e => lies_ne hl HS.out.mb (by rcases ht with rfl | rfl <;> decide) e
      have k1 := (hl.far (p := ⟨g, i, none⟩) (by exact ne1) (.bool true)).later HAL.out
      have k2 := k1.grown HG.out (fun e => own_blk_ne HMR.out k1 (by rcases ht with rfl | rfl <;> decide) e.symm)
      exact k2.far (by exact ne2) _
end Go.Proofs.YtnilempeldlieaaGreat
