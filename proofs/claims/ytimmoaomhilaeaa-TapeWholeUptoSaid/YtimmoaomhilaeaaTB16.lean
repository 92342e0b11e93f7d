/- slices.Concat at two lists of ints: both, one behind the other, in memory of the call's own. -/
import Derived.Test.YtimmoaomhilaeaaTA16
import Derived.Lib.AppendZeros
namespace Go.Proofs.Ytimmoaomhilaeaa
open Go.RowKit
set_option maxRecDepth 100000
theorem run_append_zero16 {P : Program} (w : World) (t tn ty e : TypeId) (i : TypeInfo) (kn : IntKind) (ht : P.underlying t = some (.slice e)) (htn : P.underlying tn = some (.int kn)) (hi : P.info? e = some i) :
    (Builtin.append_ #[t, tn] ty #[.slice none 0 0, .int .i64 0]).run P w = .ok (.slice none 0 0) w := by
  simp [Builtin.append_, run_underlying ht, run_underlying htn, sizeOf, typeInfo, hi, Builtin.lenOf, asInt, asIntOf, IntKind.wrap_i64]
theorem zeroCells_one16 (v : Value) (n : Nat) : (Builtin.zeroCells #[v] n).toList = List.replicate n v := by
  unfold Builtin.zeroCells
  have h : (fun i => (#[v] : Array Value)[i % (#[v] : Array Value).size]!) = fun _ => v := by
    funext i
    have : i % (#[v] : Array Value).size = 0 := Nat.mod_one i
    rw [this]; rfl
  rw [h]
  apply List.ext_getElem?
  intro j
  simp [List.getElem?_replicate]
  by_cases e : j < n <;> simp [e]
theorem run_zeros16 (w : World) (n : Nat) (hn : n ≤ 1000000) : ∃ A c w', (Builtin.append_ #[22, 3] 22 #[.slice none 0 0, .int .i64 n]).run Try.prog w = .ok (.slice A n c) w' ∧ w'.ownsRow w.heap.size 3 1 (.slice A n c) n ((List.replicate n (0 : Int)).map (Value.int .i64)) ∧ Below w.heap.size w w' := by
  obtain ⟨i0, hi, hz0, hz1, hz2⟩ := info_parts int_info
  by_cases h0 : n = 0
  · subst h0
    exact ⟨none, 0, w, run_append_zero16 (P := Try.prog) w 22 3 22 3 i0 .i64 Try.underlying22 Try.underlying3 hi, World.ownsRow_nil _ _ _ _, Below.refl _ _⟩
  · refine ⟨_, _, _, Lib.run_append_nil_zeros (P := Try.prog) w 22 3 22 3 i0 (.int .i64 0) .i64 .i64 Try.underlying22 Try.underlying3 hi hz0 n (by omega) (by omega) (by omega) (by rw [hz2]; omega), ⟨by simp, .inr ⟨w.heap.size, _, _, rfl, Nat.le_refl _, heap_alloc_new w.drew _, grownCap_ge w n 0 3, grownCap_le_maxLen w n 0 3 (by unfold maxLen; omega), ?_, ?_⟩⟩, ?_⟩
    · have := grownCap_ge w n 0 3
      simp only [Array.size_append, size_zeroCells]
      show n * 1 + (grownCap w n 0 3 - n) * 1 = grownCap w n 0 3 * 1
      omega
    · show List.take (n * 1) (Builtin.zeroCells #[Value.int .i64 0] n ++ Builtin.zeroCells #[Value.int .i64 0] _).toList = _
      rw [Array.toList_append, zeroCells_one16, Nat.mul_one, List.take_left' (by simp), List.map_replicate]
    · exact (Below.refl _ _).drew.trans ((Below.refl _ w.drew).alloc (Nat.le_refl _) _)

theorem own_cut16 {w : World} {base e size n c : Nat} {A : Option Addr} {xs : List Value} (h : w.ownsRow base e size (.slice A n c) n xs) (_hs : 0 < size) : w.ownsRow base e size (.slice A 0 c) 0 [] := by
  refine ⟨by simp, ?_⟩
  rcases h.2 with ⟨hv, hn⟩ | ⟨g, cap, cur, hv, hg, hh, h3, h4, h5, h6⟩
  · simp only [Value.slice.injEq] at hv
    exact .inl ⟨by rw [hv.1, hv.2.2], rfl⟩
  · simp only [Value.slice.injEq] at hv
    refine .inr ⟨g, cap, cur, by rw [hv.1, hv.2.2], hg, hh, ?_, ?_, ?_, ?_⟩
    all_goals first | omega | simp_all
set_option maxHeartbeats 1000000 in
theorem grow_any16 (n : Nat) (hn : n ≤ 1000000) (w : World) : Calls Try.prog 26 #[.slice none 0 0, .int .i64 n] w (IntsOwn16 w []) := by
  have hw1 : IntKind.i64.wrap ((n : Int) - 0) = (n : Int) := IntWalk.i64_in _ (by omega)
  have hw2 : IntKind.i64.wrap (n : Int) = (n : Int) := IntWalk.i64_in _ (by omega)
  have hn0 : ¬ (n : Int) < 0 := by omega
  by_cases h0 : n = 0
  · subst h0
    go_enter Try.func26, Try.ntmps26
    go_wp2
    go_ret
    exact ⟨none, 0, rfl, World.ownsRow_nil _ _ _ _, Below.refl _ _⟩
  · have hpos : 0 < (n : Int) := by omega
    obtain ⟨A, c, w1, hr, hown, hb⟩ := run_zeros16 w n hn
    have HR := hid hr
    have HO := hid (own_cut16 hown (by omega))
    have HB := hid hb
    have hnc : n ≤ c := own_cap hown
    have hA : ∃ a, A = some a := by
      obtain ⟨g, cap, hv, -, -⟩ := hown.form (by omega)
      simp only [Value.slice.injEq] at hv
      exact ⟨_, hv.1⟩
    obtain ⟨a, rfl⟩ := hA
    clear hr hown hb
    go_enter Try.func26, Try.ntmps26
    go_wp2_with (at_builtin; refine Lib.wpList_append_run _ rfl (.tmp 20) (.tmp 21) 22 3 rfl (.slice none 0 0) (.int .i64 n) rfl rfl _ _ HR.out ?_)
    go_ret
    exact ⟨_, _, rfl, HO.out, HB.out⟩
def lc16 (xs ys : List Int) : Nat → List Int
  | 0 => []
  | 1 => xs
  | _ => xs ++ ys
set_option maxHeartbeats 4000000 in
theorem concat_any16 (xs ys : List Int) (S T : Option Addr) (c d gb : Nat) (w : World) (hb : Lies w gb 22 #[.slice S xs.length c, .slice T ys.length d]) (hx : IntsR w S xs) (hy : IntsR w T ys) (hS : S = none → c = 0) (hT : T = none → d = 0) (hl : xs.length + ys.length ≤ 1000000) :
    Calls Try.prog 23 #[.slice (some ⟨gb, 0, none⟩) 2 2] w (IntsOwn16 w (xs ++ ys)) := by
  obtain ⟨i0, hi0, hz0, hz1, hz2⟩ := info_parts int_info
  have HB := hid hb
  have HX := hid hx
  have HY := hid hy
  have HS := hid hS
  have HT := hid hT
  clear hb hx hy hS hT
  go_enter Try.func23, Try.ntmps23
  go_wp2_with fail
  go_loopw [11, 3] (fun i s wr => ∃ k : Nat, k ≤ 2 ∧ i = .int .i64 k ∧ s = .int .i64 (if k = 0 then 0 else if k = 1 then (xs.length : Int) else (xs.length : Int) + (ys.length : Int)) ∧ wr = w) (fun i _ _ => 2 - (intOf i).toNat)
  case atStart => exact ⟨0, by omega, rfl, rfl, rfl⟩
  case round =>
    obtain ⟨k, hk, rfl, rfl, rfl⟩ := hrel
    obtain ⟨b0, b1⟩ := HB.out.c2
    rcases (show k = 0 ∨ k = 1 ∨ k = 2 by omega) with rfl | rfl | rfl
    · have hw1 : IntKind.i64.wrap (xs.length : Int) = (xs.length : Int) := IntWalk.i64_in _ (by omega)
      have hp : ¬ (xs.length : Int) < 0 := by omega
      go_wp2_with fail
      go_roundw
      case rel => exact ⟨1, by omega, by first | trivial | rfl | simp, by first | trivial | rfl | simp, by first | trivial | rfl | simp⟩
      case measure => simp [intOf]
    · have hw1 : IntKind.i64.wrap ((xs.length : Int) + (ys.length : Int)) = (xs.length : Int) + (ys.length : Int) := IntWalk.i64_in _ (by omega)
      have hp : ¬ (xs.length : Int) + (ys.length : Int) < 0 := by omega
      go_wp2_with fail
      go_roundw
      case rel => exact ⟨2, by omega, by first | trivial | rfl | simp, by first | trivial | rfl | simp, by first | trivial | rfl | simp⟩
      case measure => simp [intOf]
    · have hg := grow_any16 (xs.length + ys.length) hl wr
      rw [Int.natCast_add] at hg
      have HG := hid hg
      clear hg b0 b1
      go_wp2_with fail
      refine HG.out.mono ?_
      rintro e w1 ⟨A, cA, rfl, hown, hb⟩
      have HO1 := hid hown
      have HB1 := hid hb
      clear hown hb HG
      go_wp2_with fail
      go_loopw [27, 6] (fun i s w2 => ∃ (k : Nat) (A : Option Addr) (cA : Nat), k ≤ 2 ∧ i = .int .i64 k ∧ s = .slice A (lc16 xs ys k).length cA ∧ Hid (w2.ownsRow wr.heap.size 3 1 (.slice A (lc16 xs ys k).length cA) (lc16 xs ys k).length ((lc16 xs ys k).map (Value.int .i64))) ∧ Hid (Below wr.heap.size wr w2)) (fun i _ _ => 2 - (intOf i).toNat)
      case atStart => exact ⟨0, A, cA, by omega, rfl, rfl, HO1, HB1⟩
      case round =>
        rename World => w2
        obtain ⟨k, A2, c2, hk, rfl, rfl, HO, HBW⟩ := hrel
        clear HO1 HB1
        have HBL := hid (HB.out.later HBW.out)
        obtain ⟨b0, b1⟩ := HBL.out.c2
        have hbase := HBW.out.size
        rcases (show k = 0 ∨ k = 1 ∨ k = 2 by omega) with rfl | rfl | rfl
        · have HO2 : Hid (w2.ownsRow wr.heap.size 3 1 (.slice A2 0 c2) 0 []) := HO
          have HX2 := hid (HX.out.below HBW.out)
          go_wp2_with (at_builtin; refine wpList_append_ints rfl (.tmp 31) (.tmp 32) 22 rfl wr.heap.size i0 Try.underlying22 hi0 hz0 hz1 hz2 _ 0 [] rfl HO2.out S c xs rfl HX2.out HS.out (by omega) hbase ?_)
          intro v' w3 h1 h2
          obtain ⟨A3, c3, rfl⟩ := own_form h1
          have h1 : w3.ownsRow wr.heap.size 3 1 (.slice A3 xs.length c3) xs.length (xs.map (Value.int .i64)) := by simpa using h1
          have hb3 := HBW.out.grown h2 hbase (fun q hq => (HO2.out.lt q hq).1)
          have H3 := hid h1
          have HB3 := hid hb3
          clear h1 h2 hb3 b0 b1
          go_wp2_with fail
          go_roundw
          case rel => exact ⟨1, A3, c3, by omega, by first | trivial | rfl | simp, rfl, H3, HB3⟩
          case measure => simp [intOf]
        · have HO2 : Hid (w2.ownsRow wr.heap.size 3 1 (.slice A2 xs.length c2) xs.length (xs.map (Value.int .i64))) := HO
          have HY2 := hid (HY.out.below HBW.out)
          go_wp2_with (at_builtin; refine wpList_append_ints rfl (.tmp 31) (.tmp 32) 22 rfl wr.heap.size i0 Try.underlying22 hi0 hz0 hz1 hz2 _ xs.length _ rfl HO2.out T d ys rfl HY2.out HT.out (by omega) hbase ?_)
          intro v' w3 h1 h2
          obtain ⟨A3, c3, rfl⟩ := own_form h1
          have h1 : w3.ownsRow wr.heap.size 3 1 (.slice A3 (xs ++ ys).length c3) (xs ++ ys).length ((xs ++ ys).map (Value.int .i64)) := by rw [List.length_append, List.map_append]; exact h1
          have hb3 := HBW.out.grown h2 hbase (fun q hq => (HO2.out.lt q hq).1)
          have H3 := hid h1
          have HB3 := hid hb3
          clear h1 h2 hb3 b0 b1
          rw [← List.length_append]
          go_wp2_with fail
          go_roundw
          case rel => exact ⟨2, A3, c3, by omega, by first | trivial | rfl | simp, by show _ = Value.slice A3 (xs ++ ys).length c3; simp, H3, HB3⟩
          case measure => simp [intOf]
        · clear b0 b1
          have HO2 : Hid (w2.ownsRow wr.heap.size 3 1 (.slice A2 (xs ++ ys).length c2) (xs ++ ys).length ((xs ++ ys).map (Value.int .i64))) := HO
          go_wp2_with fail
          go_ret
          exact ⟨A2, c2, rfl, HO2.out, HBW.out⟩
end Go.Proofs.Ytimmoaomhilaeaa
