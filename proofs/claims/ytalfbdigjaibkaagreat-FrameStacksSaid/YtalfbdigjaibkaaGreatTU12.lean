/- The program's Unpack (as stage 11 walked it; what it wants of other texts is cut down); its answer lies in memory of the call's own. -/
import Derived.Test.YtalfbdigjaibkaaGreatTA11
import Derived.Test.YtalfbdigjaibkaaGreatTD11
import Derived.Test.YtalfbdigjaibkaaGreatSCE12
namespace Go.Proofs.YtalfbdigjaibkaaGreat
open Go.RowKit
set_option maxRecDepth 100000
theorem wpList_append_run12 {P : Program} {w : World} {ops : Array Oper} {rest : List Oper} {o : Oper} {a : Act} {Q : Exit → Act → World → Prop} (hgd : o.guard = none) (s x : Operand) (t : TypeId)
    (ho : o.op = .call { callee := .builtin .append, args := #[s, x], argTypes := #[t, t] }) (v1 : Value) (w1 : World) (hrun : (Builtin.append_ #[t, t] o.type #[a.eval s, a.eval x]).run P w = .ok v1 w1)
    (h : wpList P ops Q rest (a.put o.dst v1) w1) : wpList P ops Q (o :: rest) a w :=
  wpList_plain hgd fun _ hK => wp_append_run11 s x t ho v1 w1 hrun (hK _ _ h)
set_option maxHeartbeats 2000000 in
theorem cunpack_any12 (b : List UInt8) (w : World) (hb : b.length ≤ 1000) : Calls Tryz.prog 75 #[.string (str b)] w (UpN12 w b) := by
  have hsz := str_size b
  have HLEN := hid hsz
  have hs1 : (str b).size ≤ 1000 := by omega
  by_cases hodd : b.length % 2 = 0
  case neg =>
    have HC := hid (up_odd11 hodd)
    have hm1 : ((str b).size : Int).tmod 2 = 1 := by rw [Int.tmod_eq_emod_of_nonneg (by omega)]; omega
    clear hsz hodd
    go_enter Tryz.func75, Tryz.ntmps75
    go_wp2_with fail
    go_ret2
    refine ⟨none, 0, by rw [HC.out]; rfl, ?_, Below.refl _ _, fun _ _ _ e => by cases e⟩
    rw [HC.out]
    exact fun h => absurd h (Nat.lt_irrefl 0)
  have hm0 : ((str b).size : Int).tmod 2 = 0 := by rw [Int.tmod_eq_emod_of_nonneg (by omega)]; omega
  by_cases hlong : 64 < b.length
  case pos =>
    have HC := hid (up_long11 hlong)
    have hl1 : (64 : Int) < ((str b).size : Int) := by omega
    clear hsz hodd
    go_enter Tryz.func75, Tryz.ntmps75
    go_wp2_with fail
    go_ret2
    refine ⟨none, 0, by rw [HC.out]; rfl, ?_, Below.refl _ _, fun _ _ _ e => by cases e⟩
    rw [HC.out]
    exact fun h => absurd h (Nat.lt_irrefl 0)
  have hl1 : ¬ (64 : Int) < ((str b).size : Int) := by omega
  have HODD := hid hodd
  have hl2 : b.length ≤ 64 := by omega
  have HO0 : Hid (w.ownsRow w.heap.size 37 2 (.slice none 0 0) ([] : List In).length (([] : List In).flatMap in211)) := World.ownsRow_nil _ _ _ _
  clear hsz hodd hlong
  go_enter Tryz.func75, Tryz.ntmps75
  go_wp2_with fail
  clear hm0 hl1
  go_loopw [4, 5] (fun v i wr => ∃ (m : Nat), 2 * m ≤ b.length ∧ i = .int .i64 ((2 * m : Nat) : Int) ∧ Hid (wr.ownsRow w.heap.size 37 2 v ((us11 b).take m).length (((us11 b).take m).flatMap in211)) ∧ Hid (Below w.heap.size w wr) ∧ Hid (∀ x ∈ (us11 b).take m, may11 x = true)) (fun _ i _ => b.length + 3 - (intOf i).toNat)
  case atStart => exact ⟨0, by omega, rfl, HO0, Below.refl _ _, fun x hx => by cases hx⟩
  case round =>
    rename World => w50
    rename Value => v50
    obtain ⟨m, hml, rfl, HO, HB, HALL⟩ := hrel
    obtain ⟨i, hi⟩ : ∃ i : Nat, i = 2 * m := ⟨_, rfl⟩
    rw [← hi]
    have HI := hid hi
    have hib : i ≤ b.length := by omega
    have hjw : IntKind.i64.wrap ((i : Int) + 1) = (i : Int) + 1 := IntWalk.i64_in _ ⟨by omega, by omega⟩
    have hjw2 : IntKind.i64.wrap ((i : Int) + 2) = (i : Int) + 2 := IntWalk.i64_in _ ⟨by omega, by omega⟩
    have hi0 : (0 : Int) ≤ (i : Int) := by omega
    have hi1 : (0 : Int) ≤ (i : Int) + 1 := by omega
    clear hi
    by_cases hj : i < b.length
    · have hj1 : i + 1 < b.length := by have := HODD.out; have := HI.out; omega
      have hjI : (i : Int) + 1 < ((str b).size : Int) := by have := HLEN.out; omega
      have hjI2 : (i : Int) < ((str b).size : Int) := by have := HLEN.out; omega
      have hjs : i < (str b).size := by have := HLEN.out; omega
      have hjs1 : i + 1 < (str b).size := by have := HLEN.out; omega
      obtain ⟨x, hx⟩ : ∃ x : Int, x = ((b[i]'hj).toNat : Int) := ⟨_, rfl⟩
      obtain ⟨y, hy⟩ : ∃ y : Int, y = ((b[i + 1]'hj1).toNat : Int) := ⟨_, rfl⟩
      have e1 : (((str b)[i]'hjs).toNat : Int) = x := (congrArg (fun b : UInt8 => (b.toNat : Int)) (str_at b i hjs hj)).trans hx.symm
      have e2 : (((str b)[i + 1]'hjs1).toNat : Int) = y := (congrArg (fun b : UInt8 => (b.toNat : Int)) (str_at b (i + 1) hjs1 hj1)).trans hy.symm
      have hx0 : 0 ≤ x ∧ x ≤ 255 := by have := UInt8.toNat_lt (b[i]'hj); omega
      have hy0 : 0 ≤ y ∧ y ≤ 255 := by have := UInt8.toNat_lt (b[i + 1]'hj1); omega
      have wx : IntKind.i64.wrap x = x := IntWalk.i64_in _ ⟨by omega, by omega⟩
      have wy : IntKind.i64.wrap y = y := IntWalk.i64_in _ ⟨by omega, by omega⟩
      have HT : Hid ((us11 b).take (m + 1) = (us11 b).take m ++ [⟨x, y⟩]) := by
        show _ = _
        have h1 := HI.out
        subst h1
        have h2 := us_at11 b m (by omega)
        obtain ⟨h3, h4⟩ := List.getElem?_eq_some_iff.1 h2
        rw [List.take_succ_eq_append_getElem h3, h4, hx, hy]
      have HMEM : Hid ((⟨x, y⟩ : In) ∈ us11 b) := by
        have h : (⟨x, y⟩ : In) ∈ (us11 b).take (m + 1) := by rw [HT.out]; simp
        exact List.mem_of_mem_take h
      have HTL : Hid (((us11 b).take m).length ≤ 1000) := by
        show _ ≤ _
        rw [List.length_take, us_len11]; omega
      clear hx hy hx0 hy0
      go_upto_region 7 with fail
      go_region
      obtain ⟨w51, hw⟩ : ∃ u, u = (w50.alloc (.cells #[.int .i64 x, .int .i64 y] 37)).drew := ⟨_, rfl⟩
      have hb1 : Below w50.heap.size w50 w51 := by rw [hw]; exact (below_alloc _ _).drew
      have HX := hid (show Lies w51 w50.heap.size 37 #[.int .i64 x, .int .i64 y] by rw [hw]; exact (Lies.new _ _ _).drew)
      have HB1 := hid (then_w HB.out hb1)
      have HO1 := hid (own_later HO.out hb1)
      rw [← hw]
      clear hw hb1 e1 e2 wx wy
      obtain ⟨x0, x1⟩ := HX.out.c2
      go_wp2_with fail
      refine (pmay_any11 ⟨x, y⟩ _).mono ?_
      rintro e w52 ⟨rfl, hb2⟩
      have HX2 := hid (HX.out.later hb2)
      have HB2 := hid (then_w HB1.out hb2)
      have HO2 := hid (own_later HO1.out hb2)
      clear hb2 x0 x1
      cases hm : may11 ⟨x, y⟩
      · have HC := hid (up_bad11 HMEM.out hm)
        clear hm
        go_wp2_with fail
        go_ret2
        refine ⟨none, 0, by rw [HC.out]; rfl, ?_, HB2.out, fun _ _ _ e => by cases e⟩
        rw [HC.out]
        exact fun h => absurd h (Nat.lt_irrefl 0)
      · have HALL2 : Hid (∀ z ∈ (us11 b).take (m + 1), may11 z = true) := by
          show ∀ z ∈ _, _
          rw [HT.out]
          intro z hz
          rcases List.mem_append.1 hz with hz | hz
          · exact HALL.out z hz
          · rw [List.mem_singleton] at hz; rw [hz]; exact hm
        clear hm
        obtain ⟨x0, x1⟩ := HX2.out.c2
        obtain ⟨v2, w2, hr, ho2, hb4⟩ := own_app11 (w0 := w) (own_later HO2.out (below_alloc w52 (.cells #[.int .i64 x, .int .i64 y] 37))) ⟨x, y⟩ w52.heap.size (Lies.new w52 37 #[.int .i64 x, .int .i64 y]) (by have := HTL.out; omega) (then_w HB2.out (below_alloc w52 (.cells #[.int .i64 x, .int .i64 y] 37)))
        have HR := hid hr
        rw [← HT.out] at ho2
        have HO4 := hid ho2
        have HB4 := hid hb4
        clear hr ho2 hb4
        have hnx : (i : Int) + 2 = ((2 * (m + 1) : Nat) : Int) := by have := HI.out; omega
        have HNX := hid hnx
        clear hnx
        go_wp2_with (first | (refine wpList_append_run12 rfl _ _ 29 rfl v2 w2 HR.out ?_) | fail)
        go_roundw
        case rel => exact ⟨m + 1, by have := HI.out; omega, by rw [← HNX.out], HO4, HB4, HALL2⟩
        case measure => simp only [intOf]; omega
    · have HE : Hid (i = b.length) := by show _ = _; omega
      have HLU : Hid ((us11 b).take m = us11 b) := by
        show _ = _
        rw [List.take_of_length_le]
        rw [us_len11]
        have := HI.out
        have := HE.out
        omega
      have hjN : ¬ (i : Int) < ((str b).size : Int) := by have := HLEN.out; omega
      rw [HLU.out] at HO HALL
      obtain ⟨A, c, hvv, hin, -⟩ := own_ins11 HO.out
      subst hvv
      have HC := hid (up_all11 HALL.out HODD.out hl2)
      go_wp2_with fail
      go_ret2
      exact ⟨A, c, by rw [HC.out]; rfl, by rw [HC.out]; exact hin, HB.out, fun k o s e => by subst e; exact (HO.out.lt k rfl).1⟩
end Go.Proofs.YtalfbdigjaibkaaGreat
