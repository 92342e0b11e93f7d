/- The program's Pack and Print. -/
import Derived.Test.YtobelbaeaamkkaaDoorTG11
namespace Go.Proofs.YtobelbaeaamkkaaDoor
open Go.RowKit
set_option maxRecDepth 100000
theorem kept_lies11 {b k : Nat} {w w' : World} {t : TypeId} {cs : Array Value} (h : Lib.OthersKept 5 (some b) w w') (hl : Lies w k t cs) (hk : k ≠ b) (ht : t ≠ 5) : Lies w' k t cs :=
  h k _ hl (fun e => hk (by injection e)) (fun c fz e => by injection e with _ e; exact ht e)
theorem pln_len11 {x : In} (h : may11 x = true) : (ln11 x).length ≤ 16 := by
  obtain ⟨p1, p2, p3, p4⟩ := may_parts11 h
  obtain ⟨op, a⟩ := x
  simp only at p1 p2 p3 p4
  obtain ⟨k, rfl⟩ : ∃ k : Nat, op = k := ⟨op.toNat, by omega⟩
  have h1 := wd_len11 k (by omega)
  have h2 := dg_len11 a
  have h3 := dg_len11 (a / 8)
  have h4 := dg_len11 (a % 8)
  have e : ln11 ⟨(k : Int), a⟩ = if no11 (k : Int) then wd11 (k : Int) else if (k : Int) = 8 ∨ (k : Int) = 9 then wd11 (k : Int) ++ [32] ++ dg11 (a / 8) ++ [32] ++ dg11 (a % 8) else wd11 (k : Int) ++ [32] ++ dg11 a := rfl
  rw [e]
  split
  · omega
  · split <;> simp <;> omega
theorem ppr_len11 {l : List In} (h : ∀ x ∈ l, may11 x = true) : (pr11 l).length ≤ 17 * l.length := by
  induction l with
  | nil => exact Nat.le_refl _
  | cons x l ih =>
    have h1 := pln_len11 (h x (by simp))
    have h2 := ih fun y hy => h y (by simp [hy])
    have e : pr11 (x :: l) = (ln11 x ++ [10]) ++ pr11 l := rfl
    rw [e]
    simp
    omega
theorem pu8_of11 {n : Int} (h0 : 0 ≤ n) (h1 : n ≤ 255) : n % 256 = ((UInt8.ofNat n.toNat).toNat : Int) := by
  simp
  omega
set_option maxHeartbeats 2000000 in
theorem cpack_any11 (l : List In) (A : Option Addr) (c : Nat) (w : World) (hs : InsR w A l) (fl : l.length ≤ 1000) :
    Calls Tryd.prog 12 #[.slice A l.length c] w fun e w' => e = .returned (.tuple #[.string (str (Pk11 l).1), .int .i64 (Pk11 l).2]) ∧ Below w.heap.size w w' := by
  have HS := hid hs
  have hl1 : (l.length : Int) ≤ 1000 := by omega
  clear hs
  cases hall : all11 l
  · have HC : Hid (Pk11 l = ([], 110)) := by show _ = _; unfold Pk11; rw [hall]; rfl
    have HALL := hid hall
    rw [HC.out]
    clear hall
    go_enter Tryd.func12, Tryd.ntmps12
    go_wp2_with fail
    refine (pall_any11 l A c _ HS.out fl).mono ?_
    rintro e w1 ⟨rfl, hb⟩
    have HB1 := hid hb
    clear hb
    rw [HALL.out]
    go_wp2_with fail
    go_ret2
    exact ⟨rfl, HB1.out⟩
  · have HC : Hid (Pk11 l = (pk11 l, 0)) := by show _ = _; unfold Pk11; rw [hall]; rfl
    have HLEN := hid (all_len11 hall)
    have HALL := hid hall
    rw [HC.out]
    clear hall
    go_enter Tryd.func12, Tryd.ntmps12
    go_wp2_with fail
    refine (pall_any11 l A c _ HS.out fl).mono ?_
    rintro e w1 ⟨rfl, hb⟩
    have HB1 := hid hb
    rw [HALL.out]
    have HW0 := hid (bw_new11 w.heap.size w1 HB1.out.size)
    have HB2 := hid (then_w HB1.out (below_alloc w1 (.cells #[.pointer none, .slice none 0 0] 42)))
    clear hb
    obtain ⟨bb, hbb⟩ : ∃ bb, bb = w1.heap.size := ⟨_, rfl⟩
    have HBB : Hid (w.heap.size ≤ bb) := by show _ ≤ _; rw [hbb]; exact HB1.out.size
    rw [← hbb] at HW0
    go_wp2_with fail
    rw [← hbb]
    clear hbb
    go_loopw [12] (fun i wr => ∃ j : Nat, j ≤ l.length ∧ i = .int .i64 j ∧ Hid (BW11 w.heap.size bb (pk11 (l.take j)) wr) ∧ Hid (Below w.heap.size w wr)) (fun i _ => l.length + 1 - (intOf i).toNat)
    case atStart => exact ⟨0, by omega, rfl, HW0, HB2⟩
    case round =>
      rename World => w50
      obtain ⟨j, hjl, rfl, HW, HB⟩ := hrel
      have hjw : IntKind.i64.wrap ((j : Int) + 1) = (j : Int) + 1 := IntWalk.i64_in _ ⟨by omega, by omega⟩
      have hj0 : (0 : Int) ≤ (j : Int) := by omega
      by_cases hj : j < l.length
      · have hjI : (j : Int) < (l.length : Int) := by omega
        obtain ⟨b, off, rfl, hlt, hc⟩ := HS.out (by omega)
        have ha := hc j _ (List.getElem?_eq_getElem hj)
        have HTK : Hid (l.take (j + 1) = l.take j ++ [l[j]'hj]) := by show _ = _; rw [List.take_succ_eq_append_getElem hj]
        have HMEM : Hid (l[j]'hj ∈ l) := List.getElem_mem hj
        obtain ⟨x, hx⟩ : ∃ x, x = l[j]'hj := ⟨_, rfl⟩
        rw [← hx] at ha HTK HMEM
        have HMAY : Hid (may11 x = true) := all_may11 HALL.out x HMEM.out
        obtain ⟨p1, p2, p3, p4⟩ := may_parts11 HMAY.out
        have HLL : Hid ((pk11 (l.take j)).length ≤ 600) := by
          show _ ≤ _
          have := HLEN.out
          rw [pk_len11, List.length_take]
          omega
        have g0 := cell_later HB.out ha.1
        have g1 := cell_later HB.out ha.2
        have HX := hid (Lies.new w50 34 #[.int .i64 x.op, .int .i64 x.a])
        have HBA := hid (below_alloc w50 (.cells #[.int .i64 x.op, .int .i64 x.a] 34))
        have HWA := hid (bw_later11 HW.out HBA.out)
        have HNB : Hid (w50.heap.size ≠ bb) := by show _ ≠ _; have := bw_lt11 HW.out; omega
        have HB3 := hid (then_w HB.out HBA.out)
        have x0 := HX.out.cell 0
        have x1 := HX.out.cell 1
        simp only [List.getElem?_toArray, List.getElem?_cons_zero, List.getElem?_cons_succ] at x0 x1
        obtain ⟨q, hq⟩ : ∃ q, q = pk11 (l.take j) := ⟨_, rfl⟩
        have HQ := hid hq
        rw [← hq] at HWA HLL
        have hsz2 : w.heap.size ≤ (w50.alloc (.cells #[.int .i64 x.op, .int .i64 x.a] 34)).heap.size := HB3.out.size
        obtain ⟨c0, hc0⟩ : ∃ c0, c0 = UInt8.ofNat x.op.toNat := ⟨_, rfl⟩
        obtain ⟨c1, hc1⟩ : ∃ c1, c1 = UInt8.ofNat x.a.toNat := ⟨_, rfl⟩
        have E0 : Hid (x.op % 256 = (c0.toNat : Int)) := by show _ = _; rw [hc0]; exact pu8_of11 p1 (by omega)
        have E1 : Hid (x.a % 256 = (c1.toNat : Int)) := by show _ = _; rw [hc1]; exact pu8_of11 p3 p4
        have HNEXT : Hid (pk11 (l.take (j + 1)) = q ++ [c0] ++ [c1]) := by show _ = _; rw [HTK.out, pk_app11, hq, hc0, hc1]; simp [pk11, b211]
        clear ha hx hc hlt HTK HMEM hq hc0 hc1 p1 p2 p3 p4 HW HMAY
        go_wp2_with fail
        rw [E0.out]
        refine (wbyte_any11 w.heap.size bb q c0 _ HWA.out (by have := HLL.out; omega) hsz2).mono ?_
        rintro e w3 ⟨rfl, h3⟩
        have HX3 := hid (kept_lies11 h3.2.2 HX.out HNB.out (by decide))
        have HW3 := hid h3.1
        have HB4 := hid (HB3.out.trans h3.2.1)
        have hsz3 : w.heap.size ≤ w3.heap.size := HB4.out.size
        clear h3 x0 x1 g0 g1 hsz2
        have x1 := HX3.out.cell 1
        simp only [List.getElem?_toArray, List.getElem?_cons_zero, List.getElem?_cons_succ] at x1
        go_wp2_with fail
        rw [E1.out]
        refine (wbyte_any11 w.heap.size bb (q ++ [c0]) c1 _ HW3.out (by have := HLL.out; rw [List.length_append]; show _ + 1 ≤ _; omega) hsz3).mono ?_
        rintro e w4 ⟨rfl, h4⟩
        have HW4 := hid h4.1
        have HB5 := hid (HB4.out.trans h4.2.1)
        clear h4 x1 hsz3
        rw [← HNEXT.out] at HW4
        clear HWA HW3 HQ HLL HNEXT HX HX3
        go_wp2_with fail
        go_roundw
        case rel => exact ⟨j + 1, by omega, by go_num, HW4, HB5⟩
        case measure => simp only [intOf]; omega
      · obtain rfl : j = l.length := by omega
        have HE : Hid (pk11 (l.take l.length) = pk11 l) := by show _ = _; rw [List.take_length]
        have hsz2 : w.heap.size ≤ w50.heap.size := HB.out.size
        rw [HE.out] at HW
        go_wp2_with fail
        refine (wall_any11 w.heap.size bb _ _ HW.out hsz2).mono ?_
        rintro e w3 ⟨rfl, h3⟩
        have HB3 := hid (HB.out.trans h3.2.1)
        clear h3
        go_wp2_with fail
        go_ret2
        exact ⟨rfl, HB3.out⟩
set_option maxHeartbeats 2000000 in
theorem cprint_any11 (l : List In) (A : Option Addr) (c : Nat) (w : World) (hs : InsR w A l) (fl : l.length ≤ 1000) (hv : Vr11 w) :
    Calls Tryd.prog 14 #[.slice A l.length c] w fun e w' => e = .returned (.tuple #[.string (str (Pr11 l).1), .int .i64 (Pr11 l).2]) ∧ Below w.heap.size w w' := by
  have HS := hid hs
  have hl1 : (l.length : Int) ≤ 1000 := by omega
  clear hs
  have HV := hid hv
  clear hv
  cases hall : all11 l
  · have HC : Hid (Pr11 l = ([], 110)) := by show _ = _; unfold Pr11; rw [hall]; rfl
    have HALL := hid hall
    rw [HC.out]
    clear hall
    go_enter Tryd.func14, Tryd.ntmps14
    go_wp2_with fail
    refine (pall_any11 l A c _ HS.out fl).mono ?_
    rintro e w1 ⟨rfl, hb⟩
    have HB1 := hid hb
    clear hb
    rw [HALL.out]
    go_wp2_with fail
    go_ret2
    exact ⟨rfl, HB1.out⟩
  · have HC : Hid (Pr11 l = (pr11 l, 0)) := by show _ = _; unfold Pr11; rw [hall]; rfl
    have HLEN := hid (all_len11 hall)
    have HALL := hid hall
    rw [HC.out]
    clear hall
    go_enter Tryd.func14, Tryd.ntmps14
    go_wp2_with fail
    refine (pall_any11 l A c _ HS.out fl).mono ?_
    rintro e w1 ⟨rfl, hb⟩
    have HB1 := hid hb
    rw [HALL.out]
    have HW0 := hid (bw_new11 w.heap.size w1 HB1.out.size)
    have HB2 := hid (then_w HB1.out (below_alloc w1 (.cells #[.pointer none, .slice none 0 0] 42)))
    clear hb
    obtain ⟨bb, hbb⟩ : ∃ bb, bb = w1.heap.size := ⟨_, rfl⟩
    have HBB : Hid (w.heap.size ≤ bb) := by show _ ≤ _; rw [hbb]; exact HB1.out.size
    rw [← hbb] at HW0
    go_wp2_with fail
    rw [← hbb]
    clear hbb
    go_loopw [12] (fun i wr => ∃ j : Nat, j ≤ l.length ∧ i = .int .i64 j ∧ Hid (BW11 w.heap.size bb (pr11 (l.take j)) wr) ∧ Hid (Below w.heap.size w wr)) (fun i _ => l.length + 1 - (intOf i).toNat)
    case atStart => exact ⟨0, by omega, rfl, HW0, HB2⟩
    case round =>
      rename World => w50
      obtain ⟨j, hjl, rfl, HW, HB⟩ := hrel
      have hjw : IntKind.i64.wrap ((j : Int) + 1) = (j : Int) + 1 := IntWalk.i64_in _ ⟨by omega, by omega⟩
      have hj0 : (0 : Int) ≤ (j : Int) := by omega
      by_cases hj : j < l.length
      · have hjI : (j : Int) < (l.length : Int) := by omega
        obtain ⟨b, off, rfl, hlt, hc⟩ := HS.out (by omega)
        have ha := hc j _ (List.getElem?_eq_getElem hj)
        have HTK : Hid (l.take (j + 1) = l.take j ++ [l[j]'hj]) := by show _ = _; rw [List.take_succ_eq_append_getElem hj]
        have HMEM : Hid (l[j]'hj ∈ l) := List.getElem_mem hj
        obtain ⟨x, hx⟩ : ∃ x, x = l[j]'hj := ⟨_, rfl⟩
        rw [← hx] at ha HTK HMEM
        have HMAY : Hid (may11 x = true) := all_may11 HALL.out x HMEM.out
        obtain ⟨p1, p2, p3, p4⟩ := may_parts11 HMAY.out
        have HLL : Hid ((pr11 (l.take j)).length ≤ 600) := by
          show _ ≤ _
          have := HLEN.out
          have h2 := ppr_len11 (l := l.take j) fun y hy => all_may11 HALL.out y (List.mem_of_mem_take hy)
          rw [List.length_take] at h2
          omega
        have g0 := cell_later HB.out ha.1
        have g1 := cell_later HB.out ha.2
        have HX := hid (Lies.new w50 34 #[.int .i64 x.op, .int .i64 x.a])
        have HBA := hid (below_alloc w50 (.cells #[.int .i64 x.op, .int .i64 x.a] 34))
        have HWA := hid (bw_later11 HW.out HBA.out)
        have HNB : Hid (w50.heap.size ≠ bb) := by show _ ≠ _; have := bw_lt11 HW.out; omega
        have HB3 := hid (then_w HB.out HBA.out)
        have x0 := HX.out.cell 0
        have x1 := HX.out.cell 1
        simp only [List.getElem?_toArray, List.getElem?_cons_zero, List.getElem?_cons_succ] at x0 x1
        obtain ⟨q, hq⟩ : ∃ q, q = pr11 (l.take j) := ⟨_, rfl⟩
        have HQ := hid hq
        rw [← hq] at HWA HLL
        have hsz2 : w.heap.size ≤ (w50.alloc (.cells #[.int .i64 x.op, .int .i64 x.a] 34)).heap.size := HB3.out.size
        have HNEXT : Hid (pr11 (l.take (j + 1)) = q ++ ln11 x ++ [10]) := by show _ = _; rw [HTK.out, pr_app11, hq]; simp [pr11]
        have HLN := hid (pln_len11 HMAY.out)
        have HVA := hid (HV.out.later HB3.out)
        clear ha hx hc hlt HTK HMEM hq p1 p2 p3 p4 HW
        go_wp2_with fail
        refine (pline_any11 x HMAY.out _ HVA.out).mono ?_
        rintro e w3 ⟨rfl, hb⟩
        have HW3 := hid (bw_later11 HWA.out hb)
        have HB4 := hid (then_w HB3.out hb)
        have hsz3 : w.heap.size ≤ w3.heap.size := HB4.out.size
        clear hb x0 x1 g0 g1 hsz2
        go_wp2_with fail
        refine (wstr_any11 w.heap.size bb q (ln11 x) _ HW3.out (by have := HLL.out; omega) (by have := HLN.out; omega) hsz3).mono ?_
        rintro e w4 ⟨rfl, h4⟩
        have HW4 := hid h4.1
        have HB5 := hid (HB4.out.trans h4.2.1)
        have hsz4 : w.heap.size ≤ w4.heap.size := HB5.out.size
        clear h4 hsz3
        go_wp2_with fail
        refine (wstr_any11 w.heap.size bb (q ++ ln11 x) [10] _ HW4.out (by have := HLL.out; have := HLN.out; rw [List.length_append]; omega) (by decide) hsz4).mono ?_
        rintro e w5 ⟨rfl, h5⟩
        have HW5 := hid h5.1
        have HB6 := hid (HB5.out.trans h5.2.1)
        clear h5 hsz4
        rw [← HNEXT.out] at HW5
        clear HWA HW3 HW4 HQ HLL HNEXT HX HLN
        go_wp2_with fail
        go_roundw
        case rel => exact ⟨j + 1, by omega, by go_num, HW5, HB6⟩
        case measure => simp only [intOf]; omega
      · obtain rfl : j = l.length := by omega
        have HE : Hid (pr11 (l.take l.length) = pr11 l) := by show _ = _; rw [List.take_length]
        have hsz2 : w.heap.size ≤ w50.heap.size := HB.out.size
        rw [HE.out] at HW
        go_wp2_with fail
        refine (wall_any11 w.heap.size bb _ _ HW.out hsz2).mono ?_
        rintro e w3 ⟨rfl, h3⟩
        have HB3 := hid (HB.out.trans h3.2.1)
        clear h3
        go_wp2_with fail
        go_ret2
        exact ⟨rfl, HB3.out⟩
end Go.Proofs.YtobelbaeaamkkaaDoor
