/- The program's word on what has a text: a value, roots that are values, a heap with roots. The program's Encode. -/
import Derived.Test.YthggafdfglojaaaKA8
import Derived.Test.YthggafdfglojaaaVM
import Derived.Test.YthggafdfglojaaaG
import Derived.Test.YthggafdfglojaaaKC8
import Derived.Test.YthggafdfglojaaaKG8
import Derived.Test.YthggafdfglojaaaQV
import Derived.Test.YthggafdfglojaaaQM
namespace Go.Proofs.Ythggafdfglojaaa
open Go.RowKit
set_option maxRecDepth 100000
theorem pisval_any8 (h : Hp) (v : Int) (A : Option Addr) (c : Nat) (w : World) :
    Calls Try.prog 105 #[.agg #[.slice A h.objs.length c, .int .i64 h.cap, .int .i64 h.last], .int .i64 v] w fun e w' => e = .returned (.bool (hasB h.objs.length v)) ∧ Below w.heap.size w w' := by
  have HB := hid (below_alloc w (.cells #[Value.slice A h.objs.length c, Value.int .i64 h.cap, Value.int .i64 h.last] 24))
  cases ha : atB v
  · have E : Hid (hasB h.objs.length v = (nB v || atB v)) := by show _ = _; unfold hasB refB; rw [ha]; simp
    have HA := hid ha
    clear ha
    go_enter Try.func105, Try.ntmps105
    go_wp2_with fail
    refine (at_any v _).mono ?_
    rintro e w1 ⟨rfl, rfl⟩
    rw [HA.out]
    go_wp2_with fail
    refine (vmay_any v _).mono ?_
    rintro e w1 ⟨rfl, rfl⟩
    rw [← E.out]
    go_wp2_with fail
    go_ret
    exact ⟨rfl, HB.out⟩
  · have hn : nB v = false := by
      have := atB_iff.1 ha
      cases hn : nB v
      · rfl
      · have := nB_iff.1 hn; omega
    have E : Hid (hasB h.objs.length v = decide (atV v < h.objs.length)) := by show _ = _; unfold hasB refB; rw [ha, hn]; simp
    have HA := hid ha
    obtain ⟨x, hx⟩ : ∃ x, x = atV v := ⟨_, rfl⟩
    have HX := hid hx
    rw [← hx] at E
    clear ha hn hx
    go_enter Try.func105, Try.ntmps105
    go_wp2_with fail
    refine (at_any v _).mono ?_
    rintro e w1 ⟨rfl, rfl⟩
    rw [HA.out, ← HX.out]
    go_wp2_with fail
    go_ret
    exact ⟨by rw [E.out]; rfl, HB.out⟩
theorem ptext1_any8 (h : Hp) (x : Int) (A : Option Addr) (c b : Nat) (w : World) (hb : BoxH w b h A c) :
    Calls Try.prog 104 #[.int .i64 x, .pointer (some ⟨b, 0, none⟩)] w fun e w' => e = .returned (.bool (!hasB h.objs.length x)) ∧ Below w.heap.size w w' := by
  obtain ⟨h0, h1, h2⟩ := hb
  go_enter Try.func104, Try.ntmps104
  go_wp2_with fail
  refine (pisval_any8 h x A c _).mono ?_
  rintro e w' ⟨rfl, hb⟩
  have HB := hid hb
  clear hb h0 h1 h2
  go_wp2_with fail
  go_ret
  exact ⟨rfl, HB.out⟩
set_option maxHeartbeats 1000000 in
theorem pidx_any8 (h : Hp) (A : Option Addr) (c b : Nat) (S : Option Addr) (xs : List Int) (d : Nat) (w : World) (hb : BoxH w b h A c) (hlt : b < w.heap.size) (hs : IntsR w S xs) (hl : xs.length ≤ 64) :
    Calls Try.prog 87 #[.slice S xs.length d, .func (.func 104) #[] #[.pointer (some ⟨b, 0, none⟩)]] w fun e w' => ∃ n : Int, e = .returned (.int .i64 n) ∧ (n < 0 ↔ xs.all (hasB h.objs.length) = true) ∧ Below w.heap.size w w' := by
  have HBX := hid hb
  have HS := hid hs
  clear hb hs
  go_enter Try.func87, Try.ntmps87
  go_wp2_with fail
  go_loopw [8] (fun i wr => ∃ k : Nat, k ≤ xs.length ∧ i = .int .i64 k ∧ (xs.take k).all (hasB h.objs.length) = true ∧ Below w.heap.size w wr) (fun i _ => xs.length - (intOf i).toNat)
  case atStart => exact ⟨0, Nat.zero_le _, rfl, rfl, Below.refl _ _⟩
  case round =>
    obtain ⟨k, hk, rfl, hall, hbw⟩ := hrel
    have HA := hid hall
    have HW := hid hbw
    clear hall hbw
    by_cases hlt2 : k < xs.length
    · obtain ⟨bs, os, rfl, hbs, hcs⟩ := HS.out (by omega)
      have hcell : wr.cell? ⟨bs, os + k, none⟩ = some (.int .i64 xs[k]) := (HW.out.cell (p := ⟨bs, os + k, none⟩) hbs).trans (hcs k _ (List.getElem?_eq_getElem hlt2))
      have HBR := hid (HBX.out.below hlt HW.out)
      have HT : Hid ((xs.take (k + 1)).all (hasB h.objs.length) = ((xs.take k).all (hasB h.objs.length) && hasB h.objs.length xs[k])) := by
        show _ = _
        rw [List.take_succ_eq_append_getElem hlt2, List.all_append]; simp
      have HM : Hid (xs[k] ∈ xs) := List.getElem_mem hlt2
      obtain ⟨y, hy⟩ : ∃ y, y = xs[k]'hlt2 := ⟨_, rfl⟩
      rw [← hy] at hcell HT HM
      clear hcs hy
      cases hv : hasB h.objs.length y
      · have HV := hid hv
        clear hv
        go_wp2_with fail
        refine (ptext1_any8 h y A c b _ HBR.out).mono ?_
        rintro e w' ⟨rfl, hb⟩
        rw [HV.out]
        have HB := hid hb
        clear hb
        go_wp2_with fail
        go_ret
        refine ⟨k, rfl, ⟨fun hh => by omega, fun hh => ?_⟩, HW.out.trans (HB.out.mono HW.out.size)⟩
        have := List.all_eq_true.1 hh y HM.out
        rw [HV.out] at this; cases this
      · have HV := hid hv
        clear hv
        go_wp2_with fail
        refine (ptext1_any8 h y A c b _ HBR.out).mono ?_
        rintro e w' ⟨rfl, hb⟩
        rw [HV.out]
        have HB := hid hb
        clear hb
        go_wp2_with fail
        go_roundw
        case rel => exact ⟨k + 1, by omega, by go_num, by rw [HT.out, HA.out, HV.out]; rfl, HW.out.trans (HB.out.mono HW.out.size)⟩
        case measure => simp only [intOf]; omega
    · obtain rfl : k = xs.length := by omega
      go_wp2_with fail
      go_ret
      refine ⟨-1, rfl, ⟨fun _ => ?_, fun _ => by omega⟩, HW.out⟩
      have := HA.out
      rwa [List.take_length] at this
theorem pcontains_any8 (h : Hp) (A : Option Addr) (c b : Nat) (S : Option Addr) (xs : List Int) (d : Nat) (w : World) (hb : BoxH w b h A c) (hlt : b < w.heap.size) (hs : IntsR w S xs) (hl : xs.length ≤ 64) :
    Calls Try.prog 54 #[.slice S xs.length d, .func (.func 104) #[] #[.pointer (some ⟨b, 0, none⟩)]] w fun e w' => e = .returned (.bool (!xs.all (hasB h.objs.length))) ∧ Below w.heap.size w w' := by
  have K := hid (pidx_any8 h A c b S xs d w hb hlt hs hl)
  clear hs hl hlt hb
  go_enter Try.func54, Try.ntmps54
  go_wp2_with fail
  refine K.out.mono ?_
  rintro e w' ⟨n, rfl, hn, hb⟩
  have E : Hid ((!xs.all (hasB h.objs.length)) = decide (0 ≤ n)) := by
    show _ = _
    cases hx : xs.all (hasB h.objs.length) <;> rw [hx] at hn <;> simp at hn ⊢ <;> omega
  have HB := hid hb
  clear hn K hb
  go_wp2
  go_ret
  exact ⟨by rw [E.out]; rfl, HB.out⟩
set_option maxHeartbeats 2000000 in
theorem ptext_any8 (h : Hp) (rs : List Int) (A R : Option Addr) (c d : Nat) (w : World) (hs : ObsR w A h.objs) (fit : h.Fit) (hr : IntsR w R rs) (hl : rs.length ≤ 9223372036854775807) :
    Calls Try.prog 73 #[.agg #[.slice A h.objs.length c, .int .i64 h.cap, .int .i64 h.last], .slice R rs.length d] w fun e w' => e = .returned (.bool (mayR h rs)) ∧ Below w.heap.size w w' := by
  have hmf : ∀ (fn : Fn) (first cap : Array Value) (w : World), (Instr.makeFunc fn first cap).run Try.prog w = .ok (.func fn first cap) w := fun _ _ _ _ => rfl
  obtain ⟨w0, hw0⟩ : ∃ w0, w0 = w.alloc (.cells #[Value.slice A h.objs.length c, Value.int .i64 h.cap, Value.int .i64 h.last] 24) := ⟨_, rfl⟩
  have HB0 : Hid (Below w.heap.size w w0) := by show Below _ _ _; rw [hw0]; exact below_alloc _ _
  have HX0 : Hid (Lies w0 w.heap.size 24 #[Value.slice A h.objs.length c, Value.int .i64 h.cap, Value.int .i64 h.last]) := by
    show Lies _ _ _ _
    rw [hw0]; exact Lies.new _ _ _
  have HS := hid (hs.below HB0.out)
  have HF := hid fit
  have HR := hid hr
  clear hs fit hr
  go_enter Try.func73, Try.ntmps73
  go_upto_region 1 with fail
  rw [← hw0]
  clear hw0
  have x0 := HX0.out.cell 0
  have x1 := HX0.out.cell 1
  have x2 := HX0.out.cell 2
  simp only [List.getElem?_toArray, List.getElem?_cons_zero, List.getElem?_cons_succ] at x0 x1 x2
  go_wp2_with fail
  refine (may_any h A c _ HS.out HF.out).mono ?_
  rintro e w1 ⟨rfl, hb⟩
  have HB1 := hid (HB0.out.trans (hb.mono HB0.out.size))
  have HX1 := hid (HX0.out.later hb)
  clear hb x0 x1 x2
  cases hm : mayB h
  · have E : Hid (mayR h rs = false) := by show _ = _; unfold mayR; rw [hm]; simp
    clear hm
    go_wp2_with fail
    go_ret
    exact ⟨by rw [E.out]; rfl, HB1.out⟩
  · by_cases h64 : 64 < rs.length
    · have E : Hid (mayR h rs = false) := by show _ = _; unfold mayR; rw [hm, decide_eq_false (by omega)]; simp
      have h64I : (64 : Int) < (rs.length : Int) := by omega
      clear hm
      go_wp2_with fail
      go_ret
      exact ⟨by rw [E.out]; rfl, HB1.out⟩
    · have E : Hid (mayR h rs = !(!rs.all (hasB h.objs.length))) := by show _ = _; unfold mayR; rw [hm, decide_eq_true (by omega)]; simp
      have h64I : ¬ (64 : Int) < (rs.length : Int) := by omega
      have x0 := HX1.out.cell 0
      have x1 := HX1.out.cell 1
      have x2 := HX1.out.cell 2
      simp only [List.getElem?_toArray, List.getElem?_cons_zero, List.getElem?_cons_succ] at x0 x1 x2
      have HBX : Hid (BoxH w1 w.heap.size h A c) := ⟨x0, x1, x2⟩
      clear hm x0 x1 x2
      go_wp2_with fail
      refine (pcontains_any8 h A c w.heap.size R rs d _ HBX.out HX1.out.lt (HR.out.below HB1.out) (by omega)).mono ?_
      rintro e w2 ⟨rfl, hb⟩
      have HB2 := hid (HB1.out.trans (hb.mono HB1.out.size))
      clear hb
      obtain ⟨q, hq⟩ : ∃ q, q = (!rs.all (hasB h.objs.length)) := ⟨_, rfl⟩
      rw [← hq] at E ⊢
      clear hq
      go_wp2_with fail
      go_ret
      exact ⟨by rw [E.out]; rfl, HB2.out⟩
end Go.Proofs.Ythggafdfglojaaa
namespace Go.Proofs.Ythggafdfglojaaa
open Go.RowKit
set_option maxRecDepth 100000
theorem bwAt_later8 {B b : Nat} {p : Value} {bs : List Value} {w w' : World} (h : Lib.BuilderAtF 83 5 B b p bs w) (hb : Below w.heap.size w w') : Lib.BuilderAtF 83 5 B b p bs w' := by
  have hlt := h.lt
  obtain ⟨h1, v, h2, h3, h4⟩ := h
  exact ⟨h1, v, (hb.block b hlt).trans h2, h3.kept (row := none) ⟨hb.os, hb.tape, hb.output, hb.size, fun k hk _ => hb.block k hk⟩ (by cases hv : v.ownBlock <;> simp), h4⟩
theorem bw_later8 {B b : Nat} {l : List UInt8} {w w' : World} (h : BW8 B b l w) (hb : Below w.heap.size w w') : BW8 B b l w' :=
  h.elim (fun h => .inl (bwAt_later8 h hb)) (fun h => .inr (bwAt_later8 h hb))
theorem bw_lt8 {B b : Nat} {l : List UInt8} {w : World} (h : BW8 B b l w) : b < w.heap.size := h.elim (fun h => h.lt) (fun h => h.lt)
theorem bw_new8 (B : Nat) (w : World) (hB : B ≤ w.heap.size) : BW8 B w.heap.size [] (w.alloc (.cells #[.pointer none, .slice none 0 0] 83)) :=
  .inl ⟨hB, .slice none 0 0, Lies.new w 83 #[.pointer none, .slice none 0 0], World.ownsRowF_nil _ _ _ _, by simp [Value.ownBlock]⟩
set_option maxHeartbeats 4000000 in
theorem enc_any8 (h : Hp) (rs : List Int) (A R : Option Addr) (c d : Nat) (w : World) (hs : ObsR w A h.objs) (fit : h.Fit) (hr : IntsR w R rs) (hl : rs.length ≤ 9223372036854775807) :
    Calls Try.prog 39 #[.agg #[.slice A h.objs.length c, .int .i64 h.cap, .int .i64 h.last], .slice R rs.length d] w fun e w' => e = .returned (.string (str (encE h rs))) ∧ Below w.heap.size w w' := by
  obtain ⟨w0, hw0⟩ : ∃ w0, w0 = w.alloc (.cells #[Value.slice A h.objs.length c, Value.int .i64 h.cap, Value.int .i64 h.last] 24) := ⟨_, rfl⟩
  have HB0 : Hid (Below w.heap.size w w0) := by show Below _ _ _; rw [hw0]; exact below_alloc _ _
  have HX0 : Hid (Lies w0 w.heap.size 24 #[Value.slice A h.objs.length c, Value.int .i64 h.cap, Value.int .i64 h.last]) := by
    show Lies _ _ _ _
    rw [hw0]; exact Lies.new _ _ _
  have HS := hid hs
  have HF := hid fit
  have HR := hid hr
  have HR0 := hid (hr.below HB0.out)
  have HS0 := hid (hs.below HB0.out)
  clear hs fit hr
  go_enter Try.func39, Try.ntmps39
  go_upto_region 1 with fail
  rw [← hw0]
  clear hw0
  have x0 := HX0.out.cell 0
  have x1 := HX0.out.cell 1
  have x2 := HX0.out.cell 2
  simp only [List.getElem?_toArray, List.getElem?_cons_zero, List.getElem?_cons_succ] at x0 x1 x2
  go_wp2_with fail
  refine (ptext_any8 h rs A R c d _ HS0.out HF.out HR0.out hl).mono ?_
  rintro e w1 ⟨rfl, hb⟩
  have HB1 := hid (HB0.out.trans (hb.mono HB0.out.size))
  have HX1 := hid (HX0.out.later hb)
  clear hb x0 x1 x2
  cases hm : mayR h rs
  · have HE : Hid (encE h rs = []) := enc_no (by rw [hm]; decide)
    go_wp2_with fail
    go_ret
    exact ⟨by rw [HE.out]; rfl, HB1.out⟩
  · have HM := hid hm
    obtain ⟨-, -, hn, ho, -, hrn⟩ := may_parts hm
    have HOB := hid ho
    obtain ⟨b, hbb⟩ : ∃ u, u = w1.heap.size := ⟨_, rfl⟩
    obtain ⟨w2, hw2⟩ : ∃ u, u = w1.alloc (.cells #[.pointer none, .slice none 0 0] 83) := ⟨_, rfl⟩
    have HW2 : Hid (BW8 w.heap.size b [] w2) := by show BW8 _ _ _ _; rw [hw2, hbb]; exact bw_new8 _ _ HB1.out.size
    have HB2 : Hid (Below w.heap.size w w2) := by show Below _ _ _; rw [hw2]; exact HB1.out.alloc HB1.out.size _
    have HX2 : Hid (Lies w2 w.heap.size 24 #[Value.slice A h.objs.length c, Value.int .i64 h.cap, Value.int .i64 h.last]) := by show Lies _ _ _ _; rw [hw2]; exact HX1.out.alloc _
    have nxb : w.heap.size ≠ b := by have := HX1.out.lt; omega
    have ha3 : (⟨#[65, 78, 49]⟩ : ByteArray) = str [65, 78, 49] := rfl
    clear hm ho
    go_upto_region 4 with fail
    rw [← hbb, ← hw2]
    clear hw2 hbb
    go_wp2_with fail
    refine (wstr_any8 w.heap.size b [] [65, 78, 49] _ HW2.out (by simp) (by simp) HB2.out.size).mono ?_
    rintro e w3 ⟨rfl, hq⟩
    have HW3 : Hid (BW8 w.heap.size b [65, 78, 49] w3) := hq.1
    have HB3 := hid (HB2.out.trans hq.2.1)
    have HX3 := hid (kept_lies8 hq.2.2 HX2.out nxb (by decide))
    clear hq
    have x1 := HX3.out.cell 1
    simp only [List.getElem?_toArray, List.getElem?_cons_zero, List.getElem?_cons_succ] at x1
    go_wp2_with fail
    refine (wword_any8 w.heap.size b _ h.cap _ HW3.out (by simp) HB3.out.size).mono ?_
    rintro e w4 ⟨rfl, hq⟩
    have HW4 := hid hq.1
    have HB4 := hid (HB3.out.trans hq.2.1)
    have HX4 := hid (kept_lies8 hq.2.2 HX3.out nxb (by decide))
    clear hq x1
    have x2 := HX4.out.cell 2
    simp only [List.getElem?_toArray, List.getElem?_cons_zero, List.getElem?_cons_succ] at x2
    go_wp2_with fail
    refine (wword_any8 w.heap.size b _ h.last _ HW4.out (by simp only [List.length_append, n4_len, List.length_cons, List.length_nil]; omega) HB4.out.size).mono ?_
    rintro e w5 ⟨rfl, hq⟩
    have HW5 := hid hq.1
    have HB5 := hid (HB4.out.trans hq.2.1)
    have HX5 := hid (kept_lies8 hq.2.2 HX4.out nxb (by decide))
    clear hq x2
    have x0 := HX5.out.cell 0
    simp only [List.getElem?_toArray, List.getElem?_cons_zero] at x0
    go_wp2_with fail
    refine (wword_any8 w.heap.size b _ h.objs.length _ HW5.out (by simp only [List.length_append, n4_len, List.length_cons, List.length_nil]; omega) HB5.out.size).mono ?_
    rintro e w6 ⟨rfl, hq⟩
    have HB6 := hid (HB5.out.trans hq.2.1)
    have HX6 := hid (kept_lies8 hq.2.2 HX5.out nxb (by decide))
    obtain ⟨q, hqq⟩ : ∃ q, q = ((([65, 78, 49] ++ n4 h.cap) ++ n4 h.last) ++ n4 h.objs.length) := ⟨_, rfl⟩
    have HW6 : Hid (BW8 w.heap.size b q w6) := by show BW8 _ _ _ _; rw [hqq]; exact hq.1
    have hql : q.length = 15 := by rw [hqq]; simp only [List.length_append, n4_len, List.length_cons, List.length_nil]
    have HQL := hid hql
    have HQ := hid hqq
    clear hq x0 hqq hql
    have x0 := HX6.out.cell 0
    simp only [List.getElem?_toArray, List.getElem?_cons_zero] at x0
    go_wp2_with fail
    clear x0
    go_loopw [27] (fun i wr => ∃ k : Nat, k ≤ h.objs.length ∧ i = .int .i64 k ∧ BW8 w.heap.size b (q ++ (h.objs.take k).flatMap oE) wr ∧ Below w.heap.size w wr) (fun i _ => h.objs.length - (intOf i).toNat)
    case atStart => exact ⟨0, Nat.zero_le _, rfl, by rw [List.take_zero, List.flatMap_nil, List.append_nil]; exact HW6.out, HB6.out⟩
    case round =>
      obtain ⟨k, hk, rfl, hw, hb⟩ := hrel
      have HW := hid hw
      have HB := hid hb
      have hfl : ((h.objs.take k).flatMap oE).length ≤ 400 * k := by
        have := flatO_len (n := h.objs.length) (h.objs.take k) fun o hoo => HOB.out o (List.mem_of_mem_take hoo)
        rw [List.length_take] at this
        omega
      have hLN : (q ++ (h.objs.take k).flatMap oE).length ≤ 200000 := by rw [List.length_append, HQL.out]; omega
      have HLN := hid hLN
      clear hw hb hfl hLN
      by_cases hlt : k < h.objs.length
      · have hltI : (k : Int) < (h.objs.length : Int) := by omega
        obtain ⟨bs, off, rfl, hbs, hcs⟩ := HS.out (by omega)
        obtain ⟨o, hoo⟩ : ∃ o, o = h.objs[k]'hlt := ⟨_, rfl⟩
        obtain ⟨S, d1, hc, hi, -, -⟩ := hcs k o (by rw [hoo]; exact List.getElem?_eq_getElem hlt)
        have c0 := (HB.out.cell (p := ⟨bs, off + k * 6, none⟩) hbs).trans hc.c0
        have c1 := (HB.out.cell (p := ⟨bs, off + k * 6 + 1, none⟩) hbs).trans hc.c1
        have c2 := (HB.out.cell (p := ⟨bs, off + k * 6 + 2, none⟩) hbs).trans hc.c2
        have c3 := (HB.out.cell (p := ⟨bs, off + k * 6 + 3, none⟩) hbs).trans hc.c3
        have c4 := (HB.out.cell (p := ⟨bs, off + k * 6 + 4, none⟩) hbs).trans hc.c4
        have c5 := (HB.out.cell (p := ⟨bs, off + k * 6 + 5, none⟩) hbs).trans hc.c5
        have HI := hid hi
        have HOO : Hid (obB h.objs.length o = true) := HOB.out o (by rw [hoo]; exact List.getElem_mem hlt)
        have HST : Hid ((h.objs.take (k + 1)).flatMap oE = (h.objs.take k).flatMap oE ++ oE o) := by show _ = _; rw [hoo]; exact flatO_step h.objs k hlt
        clear hcs hc hi hoo
        obtain ⟨-, -, hkk, -⟩ := ob_parts HOO.out
        have hkind : o.kind = 0 ∨ o.kind = 1 ∨ o.kind = 2 := by rcases kind_parts hkk with h | h | h <;> omega
        have hsl : o.slots.length ≤ 64 := by
          rcases kind_parts hkk with ⟨-, h1, -, -⟩ | ⟨-, h1, -, -⟩ | ⟨-, h1, -⟩
          · exact h1
          · rw [h1]; simp
          · rw [h1]; simp
        have htx : o.text.size ≤ 64 := by
          have hz : (⟨#[]⟩ : ByteArray).size = 0 := rfl
          rcases kind_parts hkk with ⟨-, -, h1, -⟩ | ⟨-, -, h1, -⟩ | ⟨-, -, h1⟩
          · rw [h1, hz]; omega
          · exact h1
          · rw [h1, hz]; omega
        have HP := hid (And.intro hkind (And.intro hsl htx))
        have HWA := hid (HW.out.alloc (.cells #[.int .i64 o.cls, .int .i64 o.kind, .slice S o.slots.length d1, .string o.text, .int .i64 o.bits, .int .i64 o.hash] 46))
        have HBA := hid (HB.out.alloc HB.out.size (.cells #[.int .i64 o.cls, .int .i64 o.kind, .slice S o.slots.length d1, .string o.text, .int .i64 o.bits, .int .i64 o.hash] 46))
        clear hkk hkind hsl htx
        go_wp2_with fail
        refine (wobject_any8 w b _ o S d1 _ HWA.out (bw_lt8 HWA.out) HBA.out HI.out (by have := HLN.out; omega) HP.out.2.1 HP.out.2.2 HP.out.1).mono ?_
        rintro e w9 ⟨rfl, h2⟩
        have HN : Hid (BW8 w.heap.size b (q ++ (h.objs.take (k + 1)).flatMap oE) w9) := by
          show BW8 _ _ _ _
          rw [HST.out, ← List.append_assoc]
          exact h2.1
        have HNB := hid (HBA.out.trans h2.2.1)
        clear h2
        go_wp2_with fail
        go_roundw
        case rel => exact ⟨k + 1, by omega, by go_num, HN.out, HNB.out⟩
        case measure => simp only [intOf]; omega
      · obtain rfl : k = h.objs.length := by omega
        obtain ⟨z, hz⟩ : ∃ z, z = bodyE h rs := ⟨_, rfl⟩
        have HZ : Hid ((q ++ (h.objs.take h.objs.length).flatMap oE) ++ l4 rs = z) := by
          show _ = _
          rw [hz, HQ.out, List.take_length]
          unfold bodyE
          simp only [List.append_assoc]
        have hzl : z.length ≤ 300000 := by rw [← HZ.out, List.length_append, l4_len]; have := HLN.out; omega
        have hz0 : z ≠ [] := by rw [hz]; unfold bodyE; simp
        have HZ0 := hid hz0
        have HZL := hid hzl
        have hs3 := str_size z
        have HM1 := hid (moI_str z)
        have HM2 := hid (boI_su z)
        obtain ⟨m, hm2⟩ : ∃ m, m = (su8 z : Int) := ⟨_, rfl⟩
        rw [← hm2] at HM1 HM2
        have HE : Hid (encE h rs = z ++ n4 m) := by show _ = _; rw [enc_yes HM.out, ← hz, hm2]
        have HSZ : Hid ((str z).size ≤ 9223372036854775807) := by show _ ≤ _; omega
        clear hz hz0 hm2 hzl
        go_wp2_with fail
        refine (wlist_any8 w b _ rs R d _ HW.out HB.out HR.out (by have := HLN.out; omega) (by omega)).mono ?_
        rintro e w9 ⟨rfl, h2⟩
        have HW9 : Hid (BW8 w.heap.size b z w9) := by show BW8 _ _ _ _; rw [← HZ.out]; exact h2.1
        have HB9 := hid (HB.out.trans h2.2.1)
        clear h2
        go_wp2_with fail
        refine (wall_any8 w.heap.size b z _ HW9.out HZ0.out).mono ?_
        rintro e w10 ⟨rfl, h2⟩
        have HW10 := hid h2.1
        have HB10 := hid (HB9.out.trans h2.2.1)
        clear h2
        go_wp2_with fail
        refine (of_any7 (str z) HSZ.out _).mono ?_
        rintro e w11 ⟨rfl, hb⟩
        rw [HM1.out]
        have HW11 := hid (bw_later8 HW10.out hb)
        have HB11 := hid (HB10.out.trans (hb.mono HB10.out.size))
        clear hb
        go_wp2_with fail
        refine (bytes_any7 m _).mono ?_
        rintro e w12 ⟨rfl, hb⟩
        rw [HM2.out]
        have HW12 := hid (bw_later8 HW11.out hb)
        have HB12 := hid (HB11.out.trans (hb.mono HB11.out.size))
        clear hb
        go_wp2_with fail
        refine (wstr_any8 w.heap.size b z (n4 m) _ HW12.out (by have := HZL.out; omega) (by rw [n4_len]; omega) HB12.out.size).mono ?_
        rintro e w13 ⟨rfl, h2⟩
        have HW13 := hid h2.1
        have HB13 := hid (HB12.out.trans h2.2.1)
        have HZ1 : Hid (z ++ n4 m ≠ []) := by show _ ≠ _; intro e; exact HZ0.out (List.append_eq_nil_iff.1 e).1
        clear h2
        go_wp2_with fail
        refine (wall_any8 w.heap.size b (z ++ n4 m) _ HW13.out HZ1.out).mono ?_
        rintro e w14 ⟨rfl, h2⟩
        have HB14 := hid (HB13.out.trans h2.2.1)
        clear h2
        go_wp2_with fail
        go_ret
        exact ⟨by rw [HE.out]; rfl, HB14.out⟩
end Go.Proofs.Ythggafdfglojaaa
