/- The lines of a text, one behind the other: the iterator. -/
import Derived.Test.YtobelbaeaamkkaaDoorTK11
import Derived.RangeFuncNested
import Derived.RangeFuncBound
import Derived.RangeFuncCalls
import Derived.RangeFuncLeaves
import Derived.Shelf.Abstract
import Derived.Shelf.RegionOpen
import Derived.OwnWalkIn
import Derived.TacticsInMore
import Derived.LoopNIn
import Derived.LoopIn
namespace Go.Proofs.YtobelbaeaamkkaaDoor
open Go.RowKit Go.Shelf
attribute [local go_sem] Oper.semAt_some
set_option maxRecDepth 100000
/-- a line, and whether it is ended -/
abbrev Ln11 := { x : List UInt8 × Bool // x.1.length ≤ 1000 }
abbrev enc11 (x : Ln11) : Array Value := #[.string (str x.1.1), .bool x.1.2]
def strlen11 : Value → Nat
  | .string s => s.size
  | _ => 0
theorem grown_none11 {w w' : World} (hb : Below w.heap.size w w') : w.grownBy w' none := ⟨hb.os, hb.tape, hb.output, hb.size, fun k hk _ => hb.block k hk⟩
theorem abides11 {α : Type} {B : Nat} {J : List α → World → Prop} (hJ : AbidesFrom B J) {s : List α} {w w' : World} (hj : J s w) (hb : Below w.heap.size w w') : J s w' := hJ s w w' none hj (grown_none11 hb) (fun r e => by cases e)
theorem plines_any11 (b : List UInt8) (w : World) :
    Calls Tryd.prog 32 #[.string (str b)] w fun e w' => e = .returned (.func (.func 44) #[] #[.pointer (some ⟨w.heap.size, 0, none⟩)]) ∧ w' = w.alloc (.cells #[.string (str b)] 9) := by
  go_enter Tryd.func32, Tryd.ntmps32
  go_wp2
  go_ret
  exact ⟨by simp, rfl⟩
set_option maxHeartbeats 2000000 in
theorem plines_stops11 (b : List UInt8) (hb : b.length ≤ 1000) (n : Nat) (hn : 1 ≤ n) (bs n₀ : Nat) (w : World) (_hv : Vr11 w) (hc : w.cell? ⟨bs, 0, none⟩ = some (.string (str b))) (hn₀ : n₀ ≤ w.heap.size) (hvn : ∀ w', Below n₀ w w' → Vr11 w') :
    SeqStopsK Fence.wide n Tryd.prog 44 #[.pointer (some ⟨bs, 0, none⟩)] enc11 (Below n₀) (fun xs => xs.map (·.1) = lns11 b) (fun pre => pre.map (·.1) <+: lns11 b) 1000 w := fun l J Jx W hW hJ hJx hY h0 => by
  have HWW : Hid (Below w.heap.size w W) := hW
  have hcW := cell_later hW hc
  have HV : Hid (∀ w', Below n₀ W w' → Vr11 w') := fun w' h => hvn w' ((hW.mono hn₀).trans h)
  have hnW : n₀ ≤ W.heap.size := Nat.le_trans hn₀ hW.size
  clear hc hvn
  refine callsIn_of_wp Tryd.func44 rfl trivial ?_ rfl
  simp only [Tryd.ntmps44, List.size_toArray, List.length_cons, List.length_nil, Nat.reduceAdd, Nat.reduceSub, Array.replicate_succ, Array.replicate_zero, List.push_toArray, List.append_toArray, List.nil_append, List.cons_append]
  gi_wp2
  clear hcW
  gi_loopw [3] (fun r wr => ∃ (rest : List UInt8) (pre : List Ln11), r = .string (str rest) ∧ rest.length ≤ 1000 ∧ Hid (pre.map (·.1) ++ lns11 rest = lns11 b) ∧ Hid (pre.length + rest.length ≤ 1000) ∧ Hid (J pre wr) ∧ Hid (Below n₀ W wr))
    (fun r _ => strlen11 r)
  case atStart => exact ⟨b, [], rfl, hb, rfl, by show 0 + _ ≤ _; omega, h0, Below.refl _ _⟩
  case round =>
    obtain ⟨rest, pre, rfl, hr, HU, HL, HJ, HB⟩ := hrel
    have hcms : (str rest).toList = rest := by rw [Lib.toList_data, list_str]
    by_cases hne : rest = []
    · have HT0 : Hid (pre.map (·.1) = lns11 b) := by
        show _ = _
        rw [← HU.out, hne, lns_nil11, List.append_nil]
      have e1 : (str rest).toList.isEmpty = true := by rw [hcms, hne]; rfl
      have e2 : (str rest).toList = [] := by rw [hcms, hne]
      clear hcms hne
      gi_wp2
      go_end0
      exact ⟨⟨_, rfl⟩, .inl ⟨_, HT0.out, HJ.out⟩⟩
    · have e1 : (str rest).toList.isEmpty = false := by rw [hcms]; cases rest with
        | nil => exact absurd rfl hne
        | cons _ _ => rfl
      have e2 : ¬ (str rest).toList = [] := by rw [hcms]; exact hne
      have HLC := hid (lns_cut11 rest hne)
      have HCL := hid (ct_len11 10 rest)
      have hpos : 0 < rest.length := List.length_pos_iff.2 hne
      have HNE := hid hne
      have HC := hid (fun w0 h0 => cut_any11 rest 10 (by omega) w0 h0)
      obtain ⟨p, q, f, hpq⟩ : ∃ p q f, ct11 10 rest = (p, q, f) := ⟨_, _, _, rfl⟩
      rw [hpq] at HLC HCL HC
      have hqlt : q.length < rest.length := HCL.out.2.2 hne
      have hpl : p.length ≤ 1000 := by have := HCL.out.1; simp only at this; omega
      clear hcms hne hpq
      gi_wp2_with fail
      refine ⟨trivial, ?_⟩
      refine (callsIn_wide.2 (HC.out _ (HV.out _ HB.out))).mono ?_
      rintro e w1 ⟨rfl, hb1⟩
      have HJ1 := hid (abides11 hJ HJ.out hb1)
      have HB1 : Hid (Below n₀ W w1) := HB.out.trans (hb1.mono (Nat.le_trans hnW HB.out.size))
      clear hb1 e1 e2
      obtain ⟨x, hx⟩ : ∃ x : Ln11, x = ⟨(p, f), hpl⟩ := ⟨_, rfl⟩
      have e1 : x.1.1 = p := by rw [hx]
      have e2 : x.1.2 = f := by rw [hx]
      have HT : Hid ((pre ++ [x]).map (·.1) ++ lns11 q = lns11 b) := by
        show _ = _
        rw [← HU.out, HLC.out, hx, List.map_append, List.append_assoc]
        rfl
      obtain ⟨fn, tmps, assign, body, hy, hR⟩ := hY pre x w1 HJ1.out (by have := HL.out; omega)
      dsimp only [enc11] at hy
      rw [e1, e2] at hy
      clear hx e1 e2
      gi_wp2
      refine hR.mono ?_
      rintro e W3 (⟨rfl, hJ3, hk3⟩ | ⟨rfl, hJx3⟩)
      · have HB3 : Hid (Below n₀ W W3) := HB1.out.trans hk3
        have HJ3 := hid hJ3
        clear hJ3 hk3
        gi_wp2
        go_roundw
        case rel => exact ⟨q, pre ++ [x], rfl, by omega, HT, by have := HL.out; show _ ≤ _; rw [List.length_append]; show _ + 1 + _ ≤ _; omega, HJ3, HB3⟩
        case measure => simp only [strlen11, str_size]; omega
      · gi_wp2
        refine bodyPost_ret (results_none rfl _ _ _) rfl ?_
        exact ⟨⟨_, rfl⟩, .inr ⟨_, ⟨_, HT.out⟩, hJx3⟩⟩
end Go.Proofs.YtobelbaeaamkkaaDoor
