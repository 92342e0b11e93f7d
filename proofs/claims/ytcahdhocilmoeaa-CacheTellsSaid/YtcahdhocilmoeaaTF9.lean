/- The classes one above the other: the iterator. -/
import Derived.Test.YtcahdhocilmoeaaTE9
import Derived.Test.YtcahdhocilmoeaaTA9
import Derived.RangeFuncNested
import Derived.RangeFuncBound
import Derived.RangeFuncCalls
import Derived.RangeFuncLeaves
import Derived.Shelf.Abstract
import Derived.Shelf.RegionOpen
import Derived.OwnWalkIn
import Derived.TacticsInMore
import Derived.LoopNIn
import Derived.LoopIn
namespace Go.Proofs.Ytcahdhocilmoeaa
open Go.RowKit Go.Shelf
attribute [local go_sem] Oper.semAt_some
set_option maxRecDepth 100000
abbrev enc9 (h : Hp) (x : Pc9 h) : Array Value := #[.int .i64 x.1.1, .bool x.1.2]
theorem grown_none9 {w w' : World} (hb : Below w.heap.size w w') : w.grownBy w' none := ⟨hb.os, hb.tape, hb.output, hb.size, fun k hk _ => hb.block k hk⟩
theorem abides9 {α : Type} {B : Nat} {J : List α → World → Prop} (hJ : AbidesFrom B J) {s : List α} {w w' : World} (hj : J s w) (hb : Below w.heap.size w w') : J s w' := hJ s w w' none hj (grown_none9 hb) (fun r e => by cases e)
theorem pup_any9 (h : Hp) (c : Int) (A : Option Addr) (d : Nat) (w : World) :
    Calls Try.prog 82 #[.agg #[.slice A h.objs.length d, .int .i64 h.cap, .int .i64 h.last], .int .i64 c] w fun e w' => e = .returned (.func (.func 97) #[] #[.pointer (some ⟨w.heap.size + 1, 0, none⟩), .pointer (some ⟨w.heap.size, 0, none⟩)]) ∧ w' = (w.alloc (.cells #[Value.slice A h.objs.length d, Value.int .i64 h.cap, Value.int .i64 h.last] 24)).alloc (.cells #[.int .i64 c] 3) := by
  go_enter Try.func82, Try.ntmps82
  go_wp2
  go_ret
  exact ⟨by simp, rfl⟩
set_option maxHeartbeats 2000000 in
theorem pups_stops9 (h : Hp) (c : Int) (A : Option Addr) (d n : Nat) (hn : 1 ≤ n) (bc bh n₀ : Nat) (u w : World) (hs : ObsR u A h.objs) (hu : Below u.heap.size u w) (hm : mayB h = true) (hun : u.heap.size ≤ n₀)
    (hbh : Lies w bh 24 #[Value.slice A h.objs.length d, Value.int .i64 h.cap, Value.int .i64 h.last]) (hc : w.cell? ⟨bc, 0, none⟩ = some (.int .i64 c)) (hbn : bh < n₀) (hn₀ : n₀ ≤ w.heap.size) :
    SeqStopsK Fence.wide n Try.prog 97 #[.pointer (some ⟨bc, 0, none⟩), .pointer (some ⟨bh, 0, none⟩)] (enc9 h) (Below n₀) (fun xs => xs = upc9 h 64 c) (fun pre => pre <+: upc9 h 64 c) 64 w := fun l J Jx W hW hJ hJx hY h0 => by
  have HS := hid hs
  have HUW : Hid (Below u.heap.size u W) := hu.trans (hW.mono hu.size)
  have HBW := hid (hbh.later hW)
  have hcW := cell_later hW hc
  have HM := hid hm
  have hnW : n₀ ≤ W.heap.size := Nat.le_trans hn₀ hW.size
  clear hs hu hm hbh hc
  refine callsIn_of_wp Try.func97 rfl trivial ?_ rfl
  simp only [Try.ntmps97, List.size_toArray, List.length_cons, List.length_nil, Nat.reduceAdd, Nat.reduceSub, Array.replicate_succ, Array.replicate_zero, List.push_toArray, List.append_toArray, List.nil_append, List.cons_append]
  gi_wp2
  clear hcW
  gi_loopw [4, 9] (fun a i wr => ∃ (k : Nat) (cc : Int) (pre : List (Pc9 h)), k ≤ 64 ∧ a = .int .i64 cc ∧ i = .int .i64 k ∧ Hid (upc9 h 64 c = pre ++ upc9 h (64 - k) cc) ∧ Hid (pre.length = k) ∧ Hid (J pre wr) ∧ Hid (Below n₀ W wr))
    (fun _ i _ => 65 - (intOf i).toNat)
  case atStart => exact ⟨0, c, [], by omega, rfl, rfl, rfl, rfl, h0, Below.refl _ _⟩
  case round =>
    obtain ⟨k, cc, pre, hk, rfl, rfl, HU, HL, HJ, HB⟩ := hrel
    by_cases hk64 : k < 64
    · have hkI : (k : Int) < 64 := by omega
      have hkw : IntKind.i64.wrap ((k : Int) + 1) = (k : Int) + 1 := IntWalk.i64_in _ ⟨by omega, by omega⟩
      have HX := hid (HBW.out.below HB.out hbn)
      have HUr := hid (HUW.out.trans (HB.out.mono hun))
      have x0 := HX.out.cell 0
      have x1 := HX.out.cell 1
      have x2 := HX.out.cell 2
      simp only [List.getElem?_toArray, List.getElem?_cons_zero, List.getElem?_cons_succ] at x0 x1 x2
      gi_wp2_with fail
      refine ⟨trivial, ?_⟩
      refine (callsIn_wide.2 (pclass_any9 h cc A d u _ HS.out HUr.out HM.out)).mono ?_
      rintro e w1 ⟨rfl, hb⟩
      have HJ1 := hid (abides9 hJ HJ.out hb)
      have HX1 := hid (HX.out.later hb)
      have HU1 := hid (HUr.out.trans (hb.mono HUr.out.size))
      have HB1 : Hid (Below n₀ W w1) := HB.out.trans (hb.mono (Nat.le_trans hnW HB.out.size))
      clear hb x0 x1 x2
      obtain ⟨x, hx⟩ : ∃ x : Pc9 h, x = ⟨(cc, clB9 h cc), rfl⟩ := ⟨_, rfl⟩
      have e1 : x.1.1 = cc := by rw [hx]
      have e2 : x.1.2 = clB9 h cc := by rw [hx]
      obtain ⟨m, hm⟩ : ∃ m, 64 - k = m + 1 := ⟨63 - k, by omega⟩
      have HT : Hid (upc9 h (64 - k) cc = x :: (if clB9 h cc = true ∧ sl9 h cc 0 ≠ 0 then upc9 h m (sl9 h cc 0) else [])) := by
        show _ = _
        rw [hm, hx]; rfl
      have HMK := hid hm
      obtain ⟨fn, tmps, assign, body, hy, hR⟩ := hY pre x w1 HJ1.out (by rw [HL.out]; exact hk64)
      dsimp only [enc9] at hy
      rw [e1, e2] at hy
      clear hx e1 e2 hm
      cases hc : clB9 h cc
      · rw [hc] at hy
        have HT0 : Hid (upc9 h 64 c = pre ++ [x]) := by
          show _ = _
          rw [HU.out, HT.out, if_neg (fun f => by rw [hc] at f; cases f.1)]
        clear hc
        gi_wp2
        refine hR.mono ?_
        rintro e W3 (⟨rfl, hJ3, hk3⟩ | ⟨rfl, hJx3⟩)
        · gi_wp2
          refine bodyPost_ret (results_none rfl _ _ _) rfl ?_
          exact ⟨⟨_, rfl⟩, .inl ⟨_, HT0.out.symm, hJ3⟩⟩
        · gi_wp2
          refine bodyPost_ret (results_none rfl _ _ _) rfl ?_
          exact ⟨⟨_, rfl⟩, .inr ⟨_, ⟨[], by rw [HT0.out, List.append_nil]⟩, hJx3⟩⟩
      · rw [hc] at hy
        obtain ⟨hrc, -, hlen, -, -⟩ := cl9_parts hc
        have HC0 : ∀ W : World, Below u.heap.size u W → Calls Try.prog 99 #[.agg #[.slice A h.objs.length d, .int .i64 h.cap, .int .i64 h.last], .int .i64 cc] W (OjP9 u W (obAt h cc) true) := fun W hW => by
          have := pobj_any9 h cc A d u W HS.out hW
          rw [hrc, obD9_yes hrc] at this; exact this
        have s0' := sl_at9 (h := h) (c := cc) (k := 0) (by omega)
        have HCC := hid hc
        obtain ⟨v0, hv0⟩ : ∃ v, v = sl9 h cc 0 := ⟨_, rfl⟩
        rw [← hv0] at HT s0'
        obtain ⟨o, ho⟩ : ∃ o, o = obAt h cc := ⟨_, rfl⟩
        rw [← ho] at HC0 s0' hlen
        have S0 := hid s0'
        have hl0 : 0 < o.slots.length := by omega
        have hl0I : (0 : Int) < (o.slots.length : Int) := by omega
        clear hc hrc hlen s0' hv0 ho
        gi_wp2
        refine hR.mono ?_
        rintro e W3 (⟨rfl, hJ3, hk3⟩ | ⟨rfl, hJx3⟩)
        · have HX3 := hid (HX1.out.below hk3 hbn)
          have HU3 := hid (HU1.out.trans (hk3.mono hun))
          have HB3 : Hid (Below n₀ W W3) := HB1.out.trans hk3
          have HJ3 := hid hJ3
          clear hJ3 hk3
          have x0 := HX3.out.cell 0
          have x1 := HX3.out.cell 1
          have x2 := HX3.out.cell 2
          simp only [List.getElem?_toArray, List.getElem?_cons_zero, List.getElem?_cons_succ] at x0 x1 x2
          gi_wp2_with fail
          refine ⟨trivial, ?_⟩
          refine (callsIn_wide.2 (HC0 _ HU3.out)).mono ?_
          rintro e w4 ⟨S, dd, rfl, hin, -, hb⟩
          obtain ⟨bs, os, rfl, hbs, hcs⟩ := hin (by omega)
          have S2 := hid (hcs 0 _ S0.out)
          have HG : Hid (Lies (w4.alloc (.cells #[.int .i64 o.cls, .int .i64 o.kind, .slice (some ⟨bs, os, none⟩) o.slots.length dd, .string o.text, .int .i64 o.bits, .int .i64 o.hash] 46)) w4.heap.size 46 #[.int .i64 o.cls, .int .i64 o.kind, .slice (some ⟨bs, os, none⟩) o.slots.length dd, .string o.text, .int .i64 o.bits, .int .i64 o.hash]) := Lies.new _ _ _
          have hb4 : Below W3.heap.size W3 (w4.alloc (.cells #[.int .i64 o.cls, .int .i64 o.kind, .slice (some ⟨bs, os, none⟩) o.slots.length dd, .string o.text, .int .i64 o.bits, .int .i64 o.hash] 46)) := then_w hb (below_alloc _ _)
          have HU4 := hid (HU3.out.trans (hb4.mono HU3.out.size))
          have HB4 : Hid (Below n₀ W (w4.alloc (.cells #[.int .i64 o.cls, .int .i64 o.kind, .slice (some ⟨bs, os, none⟩) o.slots.length dd, .string o.text, .int .i64 o.bits, .int .i64 o.hash] 46))) := HB3.out.trans (hb4.mono (Nat.le_trans hnW HB3.out.size))
          have HJ4 := hid (abides9 hJ HJ3.out hb4)
          clear hb hb4 hcs hin x0 x1 x2
          have y2 := HG.out.cell 2
          simp only [List.getElem?_toArray, List.getElem?_cons_zero, List.getElem?_cons_succ] at y2
          have s0 := cell_later HU4.out S2.out
          rw [Nat.add_zero] at s0
          gi_wp2_with fail
          refine ⟨trivial, ?_⟩
          refine (callsIn_wide.2 (isnone_any9 v0 _)).mono ?_
          rintro e w5 ⟨rfl, rfl⟩
          by_cases hz : v0 = 0
          · have HT0 : Hid (upc9 h 64 c = pre ++ [x]) := by
              show _ = _
              rw [HU.out, HT.out, if_neg (fun f => f.2 hz)]
            rw [decide_eq_true hz]
            clear hz
            gi_wp2
            refine bodyPost_ret (results_none rfl _ _ _) rfl ?_
            exact ⟨⟨_, rfl⟩, .inl ⟨_, HT0.out.symm, HJ4.out⟩⟩
          · have HT0 : Hid (upc9 h 64 c = (pre ++ [x]) ++ upc9 h m v0) := by
              show _ = _
              rw [HU.out, HT.out, if_pos ⟨HCC.out, hz⟩, List.append_assoc]; rfl
            have HL5 : Hid ((pre ++ [x]).length = k + 1) := by show _ = _; rw [List.length_append, HL.out]; rfl
            rw [decide_eq_false hz]
            clear hz
            gi_wp2
            go_roundw
            case rel => exact ⟨k + 1, v0, pre ++ [x], by omega, rfl, by go_num, by rw [show 64 - (k + 1) = m by have := HMK.out; omega]; exact HT0, HL5, HJ4, HB4⟩
            case measure => simp only [intOf]; omega
        · gi_wp2
          refine bodyPost_ret (results_none rfl _ _ _) rfl ?_
          exact ⟨⟨_, rfl⟩, .inr ⟨_, ⟨_, by rw [HU.out, HT.out, List.append_assoc]; rfl⟩, hJx3⟩⟩
    · obtain rfl : k = 64 := by omega
      have HT0 : Hid (upc9 h 64 c = pre) := by
        show _ = _
        rw [HU.out]; exact List.append_nil _
      gi_wp2
      go_end0
      exact ⟨⟨_, rfl⟩, .inl ⟨_, HT0.out.symm, HJ.out⟩⟩
end Go.Proofs.Ytcahdhocilmoeaa
