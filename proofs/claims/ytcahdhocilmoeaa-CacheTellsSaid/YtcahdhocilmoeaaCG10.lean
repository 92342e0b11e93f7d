/- The document's word on what is found; its cache: a new one, one that is emptied. -/
import Derived.Test.YtcahdhocilmoeaaCF10
import Derived.Test.YtcahdhocilmoeaaCD10
namespace Go.Proofs.Ytcahdhocilmoeaa
open Go.RowKit
set_option maxRecDepth 100000
theorem rlook_any10 (h : Hp) (c s : Int) (A : Option Addr) (d : Nat) (w : World) (hs : ObsR w A h.objs) (fit : h.Fit) :
    Calls Try.prog 44 #[.agg #[.slice A h.objs.length d, .int .i64 h.cap, .int .i64 h.last], .int .i64 c, .int .i64 s] w fun e w' => e = .returned (tv10 (lk9 h c s)) ∧ Below w.heap.size w w' := by
  have HB0 := hid (below_alloc w (.cells #[Value.slice A h.objs.length d, Value.int .i64 h.cap, Value.int .i64 h.last] 24))
  have HX0 := hid (Lies.new w 24 #[Value.slice A h.objs.length d, Value.int .i64 h.cap, Value.int .i64 h.last])
  have O0 := hid (hs.below HB0.out)
  have HF := hid fit
  clear hs fit
  go_enter Try.func44, Try.ntmps44
  have x0 := HX0.out.cell 0
  have x1 := HX0.out.cell 1
  have x2 := HX0.out.cell 2
  simp only [List.getElem?_toArray, List.getElem?_cons_zero, List.getElem?_cons_succ] at x0 x1 x2
  go_wp2_with fail
  refine (rmay_any h A d _ O0.out HF.out).mono ?_
  rintro e w1 ⟨rfl, hb⟩
  have HB1 := hid (then_w HB0.out hb)
  have HX1 := hid (HX0.out.later hb)
  have O1 := hid (O0.out.below hb)
  clear hb x0 x1 x2
  cases hm : mayB h
  · have E : Hid (lk9 h c s = (0, 0, 1)) := by show _ = _; unfold lk9; rw [hm]; rfl
    clear hm
    go_wp2_with fail
    go_ret3
    exact ⟨by rw [E.out]; rfl, HB1.out⟩
  · have E := hid (lk9_may hm c s)
    clear hm
    have x0 := HX1.out.cell 0
    have x1 := HX1.out.cell 1
    have x2 := HX1.out.cell 2
    simp only [List.getElem?_toArray, List.getElem?_cons_zero, List.getElem?_cons_succ] at x0 x1 x2
    go_wp2_with fail
    refine (rfind_k10 h s A d HF.out 63 (by omega) c 64 _ (by omega) O1.out).mono ?_
    rintro e w2 ⟨rfl, hb⟩
    have HB2 := hid (then_w HB1.out hb)
    clear hb x0 x1 x2
    unfold tv10
    go_wp2_with fail
    go_ret3
    exact ⟨by rw [E.out]; rfl, HB2.out⟩
def NewCr (w : World) (k : Nat) (e : Ending) (w' : World) : Prop := ∃ p q, e = .returned (pp10 p) ∧ Cr w' p q (nw10 k) 0 0 ∧ w.heap.size ≤ p ∧ w.heap.size ≤ q ∧ Below w.heap.size w w'
theorem rnew_any10 (k : Nat) (h1 : 1 ≤ k) (h64 : k ≤ 64) (w : World) : Calls Try.prog 38 #[.int .i64 (k : Int)] w (NewCr w k) := by
  have hm := make_rc10 k h1 h64
  clear h1 h64
  go_enter Try.func38, Try.ntmps38
  go_wp2_with fail
  go_ret
  have e : (nw10 k).length = k := nw10_len k
  refine ⟨w.heap.size + 1, w.heap.size, rfl, ⟨?_, ?_⟩, by omega, by omega, below_alloc2 _ _ _⟩
  · rw [e]
    have := Lies.new (w.alloc (.cells (rc10 (nw10 k)) 86)) 63 #[.slice (some ⟨w.heap.size, 0, none⟩) k k, .int .i64 0, .int .i64 0]
    simpa using this
  · exact (Lies.new w _ _).alloc _
/-- the first i emptied -/
def fl10 (L : List En) (i : Nat) : List En := nw10 i ++ L.drop i
theorem fl10_len (L : List En) (i : Nat) (h : i ≤ L.length) : (fl10 L i).length = L.length := by unfold fl10; rw [List.length_append, nw10_len, List.length_drop]; omega
theorem fl10_set (L : List En) (i : Nat) (h : i < L.length) : (fl10 L i).set i em10 = fl10 L (i + 1) := by
  unfold fl10
  rw [List.set_append_right _ _ (by rw [nw10_len]; omega), nw10_len, Nat.sub_self, List.drop_eq_getElem_cons h, List.set_cons_zero]
  unfold nw10
  rw [List.replicate_succ']
  simp
theorem fl10_end (L : List En) : fl10 L L.length = nw10 L.length := by unfold fl10; simp
set_option maxHeartbeats 1000000 in
theorem rflush_any10 {w : World} {p q : Nat} {L : List En} {n m : Int} (h : Cr w p q L n m) (hl2 : L.length ≤ 64) :
    Calls Try.prog 40 #[pp10 p] w fun e w' => e = .returned (.tuple #[]) ∧ Cr w' p q (nw10 L.length) n m ∧ Only2 p q w w' := by
  have HR := hid h
  have hb64 : (L.length : Int) ≤ 64 := by omega
  clear h
  go_enter Try.func40, Try.ntmps40
  go_wp2_with fail
  go_loopw [2] (fun i wr => ∃ j : Nat, j ≤ L.length ∧ i = .int .i64 j ∧ Cr wr p q (fl10 L j) n m ∧ Only2 p q w wr) (fun i _ => L.length - (intOf i).toNat)
  case atStart => exact ⟨0, by omega, rfl, HR.out, Only2.refl _ _ _⟩
  case round =>
    obtain ⟨j, hjl, rfl, hr, ho⟩ := hrel
    have c0 := hr.box.cell 0
    simp only [List.getElem?_toArray, List.getElem?_cons_zero, fl10_len L j hjl] at c0
    have HC := hid hr
    have HO := hid ho
    have hjw : IntKind.i64.wrap ((j : Int) + 1) = (j : Int) + 1 := IntWalk.i64_in _ ⟨by omega, by omega⟩
    clear hr ho
    by_cases hj : j < L.length
    · have hjI : (j : Int) < (L.length : Int) := by omega
      have hj0 : (0 : Int) ≤ (j : Int) := by omega
      go_wp2_with (first | (refine wpList_store_part rfl 86 _ _ rfl q (j * 5) (er10 em10) rfl rfl 86 _ HC.out.row (by kernel_rfl) (by rw [rc10_size, fl10_len L j hjl]; show j * 5 + 5 ≤ _; omega) (by intro u hu; simp only [er10, List.mem_cons, List.not_mem_nil, or_false] at hu; rcases hu with rfl | rfl | rfl | rfl | rfl <;> rfl) ?_; rw [rc10_set (fl10 L j) j em10 (by rw [fl10_len L j hjl]; exact hj), fl10_set L j hj]) | fail)
      go_roundw
      case rel =>
        refine ⟨j + 1, by omega, by go_num, ⟨?_, HC.out.row.row⟩, HO.out.trans (only2_row _ _ _ _)⟩
        have := (HC.out.box.farRow (cs' := rc10 (fl10 L (j + 1))) HC.out.ne)
        rw [fl10_len L j hjl] at this
        rw [fl10_len L (j + 1) (by omega)]
        exact this
      case measure => simp only [intOf]; omega
    · obtain rfl : j = L.length := by omega
      have hjI : ¬ (L.length : Int) < (L.length : Int) := by omega
      go_wp2_with fail
      refine bodyPost_end (v := .tuple #[]) (by simp [results, Try.results40, go_sem]) rfl ?_
      exact ⟨rfl, by rw [← fl10_end]; exact HC.out, HO.out⟩
end Go.Proofs.Ytcahdhocilmoeaa
