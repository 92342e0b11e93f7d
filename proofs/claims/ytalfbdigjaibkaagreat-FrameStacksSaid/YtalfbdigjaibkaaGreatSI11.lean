/- The document's Unpack. -/
import Derived.Test.YtalfbdigjaibkaaGreatSH11
namespace Go.Proofs.YtalfbdigjaibkaaGreat
open Go.RowKit
set_option maxRecDepth 100000
theorem txt_inj11 {s t : ByteArray} (h : s.toList = t.toList) : s = t := by
  rw [ByteArray.toList_eq, ByteArray.toList_eq] at h
  cases s; cases t
  congr 1
  exact Array.toList_inj.1 h
def UpP11 (w : World) (b : List UInt8) (e : Ending) (w' : World) : Prop := ∃ A c, e = .returned (.tuple #[.slice A (Up11 b).1.length c, .int .i64 (Up11 b).2]) ∧ InsR w' A (Up11 b).1 ∧ Below w.heap.size w w'
set_option maxHeartbeats 1000000 in
theorem unpack_any11 (b : List UInt8) (w : World) (hb : b.length ≤ 1000) : Calls Tryz.prog 39 #[.string (str b)] w (UpP11 w b) := by
  have hsz := str_size b
  have hs1 : (str b).size ≤ 1000 := by omega
  have HB0 := hid (below_alloc w (.cells #[] 37))
  have HO0 : Hid ((w.alloc (.cells #[] 37)).ownsRow w.heap.size 37 2 (.slice (some ⟨w.heap.size, 0, none⟩) 0 0) ([] : List In).length (([] : List In).flatMap in211)) := own_empty11 w
  have HLEN := hid hsz
  clear hsz
  go_enter Tryz.func39, Tryz.ntmps39
  go_wp2_with fail
  go_loopw [4, 5] (fun v i wr => ∃ (m : Nat), 2 * m ≤ b.length + 1 ∧ i = .int .i64 ((2 * m : Nat) : Int) ∧ wr.ownsRow w.heap.size 37 2 v ((us11 b).take m).length (((us11 b).take m).flatMap in211) ∧ Below w.heap.size w wr) (fun _ i _ => b.length + 3 - (intOf i).toNat)
  case atStart => exact ⟨0, by omega, rfl, HO0.out, HB0.out⟩
  case round =>
    rename World => w50
    rename Value => v50
    obtain ⟨m, hml, rfl, ho, hb50⟩ := hrel
    have HO := hid ho
    have HB := hid hb50
    clear ho hb50
    obtain ⟨i, hi⟩ : ∃ i : Nat, i = 2 * m := ⟨_, rfl⟩
    rw [← hi]
    have HI := hid hi
    have hib : i ≤ b.length + 1 := by omega
    have hjw : IntKind.i64.wrap ((i : Int) + 1) = (i : Int) + 1 := IntWalk.i64_in _ ⟨by omega, by omega⟩
    have hjw2 : IntKind.i64.wrap ((i : Int) + 2) = (i : Int) + 2 := IntWalk.i64_in _ ⟨by omega, by omega⟩
    have hi0 : (0 : Int) ≤ (i : Int) := by omega
    have hi1 : (0 : Int) ≤ (i : Int) + 1 := by omega
    clear hi
    by_cases hj : i + 1 < b.length
    · have hjI : (i : Int) + 1 < ((str b).size : Int) := by have := HLEN.out; omega
      have hjI2 : (i : Int) < ((str b).size : Int) := by have := HLEN.out; omega
      have hjs : i < (str b).size := by have := HLEN.out; omega
      have hjs1 : i + 1 < (str b).size := by have := HLEN.out; omega
      have hj0 : i < b.length := by omega
      obtain ⟨x, hx⟩ : ∃ x : Int, x = ((b[i]'hj0).toNat : Int) := ⟨_, rfl⟩
      obtain ⟨y, hy⟩ : ∃ y : Int, y = ((b[i + 1]'hj).toNat : Int) := ⟨_, rfl⟩
      have e1 : (((str b)[i]'hjs).toNat : Int) = x := (congrArg (fun b : UInt8 => (b.toNat : Int)) (str_at b i hjs hj0)).trans hx.symm
      have e2 : (((str b)[i + 1]'hjs1).toNat : Int) = y := (congrArg (fun b : UInt8 => (b.toNat : Int)) (str_at b (i + 1) hjs1 hj)).trans hy.symm
      have hx0 : 0 ≤ x ∧ x ≤ 255 := by have := UInt8.toNat_lt (b[i]'hj0); omega
      have hy0 : 0 ≤ y ∧ y ≤ 255 := by have := UInt8.toNat_lt (b[i + 1]'hj); omega
      have wx : IntKind.i64.wrap x = x := IntWalk.i64_in _ ⟨by omega, by omega⟩
      have wy : IntKind.i64.wrap y = y := IntWalk.i64_in _ ⟨by omega, by omega⟩
      have HT : Hid ((us11 b).take (m + 1) = (us11 b).take m ++ [⟨x, y⟩]) := by
        show _ = _
        have h1 := HI.out
        subst h1
        have h2 := us_at11 b m (by omega)
        obtain ⟨h3, h4⟩ := List.getElem?_eq_some_iff.1 h2
        rw [List.take_succ_eq_append_getElem h3, h4, hx, hy]
      have HTL : Hid (((us11 b).take m).length ≤ 1000) := by
        show _ ≤ _
        rw [List.length_take, us_len11]; omega
      clear hx hy hx0 hy0
      go_upto_region 5 with fail
      refine wp_region_held_drew (S := (fun _ => True)) (by kernel_rfl) ?_ (fun hH0 => ?_)
      · exact trivial
      refine tkI 0 ⟨some 16, .move (.tmp 4), 29, "ref.go:81", #[], none⟩ ?v16 rfl (by kernel_rfl) (by rfl) ?y16 ?_
      case y16 => intro w hSw; (try dsimp only at hSw); go_simp; all_goals with_reducible rfl
      try simp only [apt12]
      refine tkI 1 ⟨some 17, .move (.tmp 0), 9, "ref.go:81", #[], none⟩ ?v17 rfl (by kernel_rfl) (by rfl) ?y17 ?_
      case y17 => intro w hSw; (try dsimp only at hSw); go_simp; all_goals with_reducible rfl
      try simp only [apt12]
      refine tkI 2 ⟨some 18, .move (.tmp 5), 3, "ref.go:81", #[], none⟩ ?v18 rfl (by kernel_rfl) (by rfl) ?y18 ?_
      case y18 => intro w hSw; (try dsimp only at hSw); go_simp; all_goals with_reducible rfl
      try simp only [apt12]
      refine tkI 3 ⟨some 19, .index 9 (.tmp 17) (.tmp 18), 5, "ref.go:81", #[⟨1, .data⟩, ⟨2, .data⟩], none⟩ ?v19 rfl (by kernel_rfl) (by rfl) ?y19 ?_
      case y19 => intro w hSw; (try dsimp only at hSw); go_simp; all_goals with_reducible rfl
      try simp only [apt12]
      refine tkI 4 ⟨some 20, .convert 5 3 (.tmp 19), 3, "ref.go:81", #[⟨3, .data⟩], none⟩ ?v20 rfl (by kernel_rfl) (by rfl) ?y20 ?_
      case y20 => intro w hSw; (try dsimp only at hSw); go_simp; all_goals with_reducible rfl
      try simp only [apt12]
      refine tkI 5 ⟨some 21, .move (.tmp 0), 9, "ref.go:81", #[], none⟩ ?v21 rfl (by kernel_rfl) (by rfl) ?y21 ?_
      case y21 => intro w hSw; (try dsimp only at hSw); go_simp; all_goals with_reducible rfl
      try simp only [apt12]
      refine tkI 6 ⟨some 22, .move (.tmp 5), 3, "ref.go:81", #[], none⟩ ?v22 rfl (by kernel_rfl) (by rfl) ?y22 ?_
      case y22 => intro w hSw; (try dsimp only at hSw); go_simp; all_goals with_reducible rfl
      try simp only [apt12]
      refine tkI 7 ⟨some 23, .binOp .add 3 (.tmp 22) (.const (Go.Value.int .i64 1)) 3, 3, "ref.go:81", #[⟨6, .data⟩], none⟩ ?v23 rfl (by kernel_rfl) (by rfl) ?y23 ?_
      case y23 => intro w hSw; (try dsimp only at hSw); go_simp; all_goals with_reducible rfl
      try simp only [apt12]
      refine tkI 8 ⟨some 24, .index 9 (.tmp 21) (.tmp 23), 5, "ref.go:81", #[⟨5, .data⟩, ⟨7, .data⟩], none⟩ ?v24 rfl (by kernel_rfl) (by rfl) ?y24 ?_
      case y24 => intro w hSw; (try dsimp only at hSw); go_simp; all_goals with_reducible rfl
      try simp only [apt12]
      refine tkI 9 ⟨some 25, .convert 5 3 (.tmp 24), 3, "ref.go:81", #[⟨8, .data⟩], none⟩ ?v25 rfl (by kernel_rfl) (by rfl) ?y25 ?_
      case y25 => intro w hSw; (try dsimp only at hSw); go_simp; all_goals with_reducible rfl
      try simp only [apt12]
      refine tkI 10 ⟨some 26, .build 37 #[(0, .tmp 20), (1, .tmp 25)], 37, "ref.go:81", #[⟨4, .data⟩, ⟨9, .data⟩], none⟩ ?v26 rfl (by kernel_rfl) (by rfl) ?y26 ?_
      case y26 => intro w hSw; (try dsimp only at hSw); go_simp; all_goals with_reducible rfl
      try simp only [apt12]
      refine wpAnyH_ready (rs := [11]) (by kernel_rfl) (by simp) ?_
      refine AllReadyH.cons (i := 11) (o := ⟨some 27, .buildSlice 29 1 #[(0, .tmp 26)], 29, "ref.go:81", #[⟨10, .data⟩], none⟩) rfl (fun K hK => ?_) AllReadyH.nil
      go_simp
      refine hK.out _ _ ?_ (fun hH1 => ?_)
      · exact trivial
      clear hK K
      try simp only [apt12]
      refine wpAnyH_ready (rs := [12]) (by kernel_rfl) (by simp) ?_
      refine AllReadyH.cons (i := 12) (o := ⟨some 28, .call { callee := .builtin .append, args := #[.tmp 16, .tmp 27], argTypes := #[29, 29] }, 29, "ref.go:81", #[⟨0, .data⟩, ⟨11, .data⟩], none⟩) rfl (fun K hK => ?_) AllReadyH.nil
      obtain ⟨v2, w2, hr, ho2, hb2⟩ := own_app11 (w0 := w) (own_later HO.out ((below_alloc w50 (.cells #[.int .i64 x, .int .i64 y] 37)).drew)) ⟨x, y⟩ w50.heap.size ((Lies.new w50 37 #[.int .i64 x, .int .i64 y]).drew) (by have := HTL.out; omega) (then_w HB.out ((below_alloc w50 (.cells #[.int .i64 x, .int .i64 y] 37)).drew))
      rw [← HT.out] at ho2
      refine wp_append_run11 _ _ 29 rfl v2 w2 hr ?_
      refine hK.out _ _ ?_ (fun hH2 => ?_)
      · exact trivial
      clear hK K
      try simp only [apt12]
      refine tkI 13 ⟨some 4, .assign (.tmp 28), 29, "ref.go:81", #[⟨12, .data⟩, ⟨12, .chain⟩, ⟨0, .phase⟩, ⟨1, .phase⟩, ⟨2, .phase⟩, ⟨3, .phase⟩, ⟨4, .phase⟩, ⟨5, .phase⟩, ⟨6, .phase⟩, ⟨7, .phase⟩, ⟨8, .phase⟩, ⟨9, .phase⟩, ⟨10, .phase⟩, ⟨11, .phase⟩, ⟨12, .phase⟩], none⟩ ?v27 rfl (by kernel_rfl) (by rfl) ?y27 ?_
      case y27 => intro w hSw; (try dsimp only at hSw); go_simp; all_goals with_reducible rfl
      try simp only [apt12]
      refine wpAnyH_done (by kernel_rfl) ?_ _
      go_wp2_with fail
      go_roundw
      case rel => exact ⟨m + 1, by have := HI.out; omega, by have h := HI.out; first | (congr 1; omega) | (simp; omega), ho2, hb2⟩
      case measure => simp only [intOf]; omega
    · have hjI : ¬ (i : Int) + 1 < ((str b).size : Int) := by have := HLEN.out; omega
      have HE : Hid ((us11 b).take m = us11 b) := by
        show _ = _
        rw [List.take_of_length_le]
        rw [us_len11]; have := HI.out; omega
      have ho := HO.out
      rw [HE.out] at ho
      obtain ⟨A, c, hv, hins, hnil⟩ := own_ins11 ho
      subst hv
      have HINS := hid hins
      have HUL : Hid ((us11 b).length ≤ 1000) := by show _ ≤ _; rw [us_len11]; omega
      clear ho hins hnil HO
      go_wp2_with fail
      refine (pack_any11 (us11 b) A c _ HINS.out HUL.out).mono ?_
      rintro e w51 ⟨rfl, hb2⟩
      have HB2 := hid (then_w HB.out hb2)
      have HIN2 := hid (HINS.out.below hb2)
      clear hb2
      cases ha : all11 (us11 b)
      · have HPK : Hid (Pk11 (us11 b) = ([], 110)) := by show _ = _; unfold Pk11; rw [ha]; rfl
        have HUP : Hid (Up11 b = ([], 110)) := by show _ = _; unfold Up11; rw [ha]; rfl
        rw [HPK.out]
        clear ha
        go_wp2_with fail
        go_ret2
        exact ⟨none, 0, by rw [HUP.out]; rfl, by rw [HUP.out]; exact fun h => absurd h (by decide), HB2.out⟩
      · have HPK : Hid (Pk11 (us11 b) = (pk11 (us11 b), 0)) := by show _ = _; unfold Pk11; rw [if_pos ha]
        rw [HPK.out]
        by_cases hs : pk11 (us11 b) = b
        · have HUP : Hid (Up11 b = (us11 b, 0)) := by show _ = _; unfold Up11; rw [ha, decide_eq_true hs]; rfl
          have HSS : Hid (str (pk11 (us11 b)) = str b) := by show _ = _; rw [hs]
          rw [HSS.out]
          clear ha hs
          go_wp2_with fail
          go_ret2
          exact ⟨A, c, by rw [HUP.out]; rfl, by rw [HUP.out]; exact HIN2.out, HB2.out⟩
        · have HUP : Hid (Up11 b = ([], 110)) := by show _ = _; unfold Up11; rw [decide_eq_false hs]; simp
          have hss : ¬ str (pk11 (us11 b)) = str b := fun e => hs (by have := congrArg (fun s : ByteArray => s.data.toList) e; simpa [list_str] using this)
          have hssL : ¬ (str (pk11 (us11 b))).toList = (str b).toList := fun e => hss (txt_inj11 e)
          have hssB : ((str (pk11 (us11 b))).toList == (str b).toList) = false := beq_eq_false_iff_ne.2 hssL
          obtain ⟨q, hq⟩ : ∃ q, q = str (pk11 (us11 b)) := ⟨_, rfl⟩
          rw [← hq] at hss hssL hssB ⊢
          clear ha hs hq
          go_wp2_with fail
          go_ret2
          exact ⟨none, 0, by rw [HUP.out]; rfl, by rw [HUP.out]; exact fun h => absurd h (by decide), HB2.out⟩
end Go.Proofs.YtalfbdigjaibkaaGreat
