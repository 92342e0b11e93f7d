/- The document's Pack. -/
import Derived.Test.YtalfbdigjaibkaaGreatSD11
import Derived.WalkSpells
import Derived.Laws.IdiomStrings
namespace Go.Proofs.YtalfbdigjaibkaaGreat
open Go.RowKit
set_option maxRecDepth 100000
theorem conv_two11 (W : World) (g : Nat) (x y : Int) (hx : 0 ≤ x ∧ x ≤ 255) (hy : 0 ≤ y ∧ y ≤ 255) (hg : Lies W g 5 #[.int .u8 x, .int .u8 y]) : (convert 108 9 (.slice (some ⟨g, 0, none⟩) 2 2)).run Tryz.prog W = .ok (.string (str [UInt8.ofNat x.toNat, UInt8.ofNat y.toNat])) W := by
  have ex : ((UInt8.ofNat x.toNat).toNat : Int) = x := by rw [UInt8.toNat_ofNat_of_lt' (by show _ < 256; omega)]; omega
  have ey : ((UInt8.ofNat y.toNat).toNat : Int) = y := by rw [UInt8.toNat_ofNat_of_lt' (by show _ < 256; omega)]; omega
  exact run_convert_bytes_back (P := Tryz.prog) W 108 9 5 ⟨g, 0, none⟩ 2 [UInt8.ofNat x.toNat, UInt8.ofNat y.toNat] Tryz.underlying108 Tryz.underlying5 Tryz.underlying9 (fun j hj => by
    have hj2 : j < 2 := hj
    rw [Addr.add_lit, Nat.zero_add, hg.cell]
    rcases (by omega : j = 0 ∨ j = 1) with rfl | rfl
    · show _ = some (Value.int .u8 ((UInt8.ofNat x.toNat).toNat : Int))
      rw [ex]; rfl
    · show _ = some (Value.int .u8 ((UInt8.ofNat y.toNat).toNat : Int))
      rw [ey]; rfl)
set_option maxHeartbeats 1000000 in
theorem pack_any11 (l : List In) (A : Option Addr) (c : Nat) (w : World) (hs : InsR w A l) (fl : l.length ≤ 1000) :
    Calls Tryz.prog 78 #[.slice A l.length c] w fun e w' => e = .returned (.tuple #[.string (str (Pk11 l).1), .int .i64 (Pk11 l).2]) ∧ Below w.heap.size w w' := by
  have HS := hid hs
  have hl1 : (l.length : Int) ≤ 1000 := by omega
  have HZ : Hid ((⟨#[]⟩ : ByteArray) = str []) := rfl
  clear hs
  go_enter Tryz.func78, Tryz.ntmps78
  go_wp2_with fail
  refine (all_any11 l A c _ HS.out fl).mono ?_
  rintro e w1 ⟨rfl, hb⟩
  have HB1 := hid hb
  clear hb
  cases hall : all11 l
  · have HC : Hid (Pk11 l = ([], 110)) := by show _ = _; unfold Pk11; rw [hall]; rfl
    clear hall
    go_wp2_with fail
    go_ret2
    exact ⟨by rw [HC.out]; rfl, HB1.out⟩
  · have HALL := hid hall
    clear hall
    go_wp2_with fail
    go_loopw [4, 5] (fun t i wr => ∃ (j : Nat) (s : ByteArray), j ≤ l.length ∧ i = .int .i64 j ∧ t = .string s ∧ Hid (s = str (pk11 (l.take j))) ∧ Below w.heap.size w wr) (fun _ i _ => l.length + 1 - (intOf i).toNat)
    case atStart => exact ⟨0, ⟨#[]⟩, by omega, rfl, rfl, HZ, HB1.out⟩
    case round =>
      rename World => w50
      obtain ⟨j, s, hjl, rfl, rfl, HSJ, hb⟩ := hrel
      have HB := hid hb
      clear hb
      have hjw : IntKind.i64.wrap ((j : Int) + 1) = (j : Int) + 1 := IntWalk.i64_in _ ⟨by omega, by omega⟩
      have hj0 : (0 : Int) ≤ (j : Int) := by omega
      by_cases hj : j < l.length
      · have hjI : (j : Int) < (l.length : Int) := by omega
        obtain ⟨b, off, rfl, hlt, hc⟩ := HS.out (by omega)
        have ha := hc j _ (List.getElem?_eq_getElem hj)
        have HTK : Hid (l.take (j + 1) = l.take j ++ [l[j]'hj]) := by show _ = _; rw [List.take_succ_eq_append_getElem hj]
        have HMEM : l[j]'hj ∈ l := List.getElem_mem hj
        obtain ⟨x, hx⟩ : ∃ x, x = l[j]'hj := ⟨_, rfl⟩
        rw [← hx] at ha HTK HMEM
        have HM := hid (all_may11 HALL.out x HMEM)
        have hsz : s.size ≤ 17 * j := by
          have h1 : ∀ y ∈ l.take j, may11 y = true := fun y hy => all_may11 HALL.out y (List.mem_of_mem_take hy)
          have h2 : (l.take j).length = j := by rw [List.length_take]; omega
          rw [HSJ.out, str_size]
          have := pk_len11 (l.take j)
          omega
        have hj1000 : j ≤ 1000 := by omega
        have g0 := cell_later HB.out ha.1
        have g1 := cell_later HB.out ha.2
        clear ha hx hc hlt HMEM
        obtain ⟨op, a⟩ := x
        simp only at g0 g1
        obtain ⟨p1, p2, p3, p4⟩ := may_parts11 HM.out
        simp only at p1 p2 p3 p4
        have HX : Hid (0 ≤ op ∧ op ≤ 255) := ⟨by omega, by omega⟩
        have HY : Hid (0 ≤ a ∧ a ≤ 255) := ⟨by omega, by omega⟩
        have u1 : IntKind.u8.wrap op = op := IntWalk.u8_in _ ⟨by omega, by omega⟩
        have u2 : IntKind.u8.wrap a = a := IntWalk.u8_in _ ⟨by omega, by omega⟩
        obtain ⟨u, hu⟩ : ∃ u, u = str [UInt8.ofNat op.toNat, UInt8.ofNat a.toNat] := ⟨_, rfl⟩
        have hus : u.size = 2 := by rw [hu, str_size]; rfl
        have c1 : ¬ 9223372036854775807 < s.size + u.size := by omega
        have c2 : ¬ 9223372036854775807 < s.size + 2 := by omega
        have HU := hid hu
        have HN : Hid (s ++ u = str (pk11 (l.take (j + 1)))) := by
          show _ = _
          rw [HTK.out, pk_app11, ← str_append, ← HSJ.out, hu]; rfl
        clear hu p1 p2 p3 p4
        go_upto_region 7 with fail
        refine wp_region_held_drew (S := (fun w' => w'.cell? ⟨b, off + j * 2, none⟩ = some (.int .i64 op) ∧ w'.cell? ⟨b, off + j * 2 + 1, none⟩ = some (.int .i64 a))) (by kernel_rfl) ?_ (fun hH0 => ?_)
        · exact ⟨g0, g1⟩
        refine tkI 0 ⟨some 15, .move (.tmp 4), 9, "ref.go:72", #[], none⟩ ?v1 rfl (by kernel_rfl) (by rfl) ?y1 ?_
        case y1 => intro w hSw; (try dsimp only at hSw); go_simp; all_goals with_reducible rfl
        try simp only [apt12]
        refine tkI 1 ⟨some 16, .move (.tmp 0), 29, "ref.go:72", #[], none⟩ ?v2 rfl (by kernel_rfl) (by rfl) ?y2 ?_
        case y2 => intro w hSw; (try dsimp only at hSw); go_simp; all_goals with_reducible rfl
        try simp only [apt12]
        refine tkI 2 ⟨some 17, .move (.tmp 5), 3, "ref.go:72", #[], none⟩ ?v3 rfl (by kernel_rfl) (by rfl) ?y3 ?_
        case y3 => intro w hSw; (try dsimp only at hSw); go_simp; all_goals with_reducible rfl
        try simp only [apt12]
        refine tkI 3 ⟨some 18, .indexAddr 29 (.tmp 16) (.tmp 17), 0, "ref.go:72", #[⟨1, .data⟩, ⟨2, .data⟩], none⟩ ?v4 rfl (by kernel_rfl) (by rfl) ?y4 ?_
        case y4 => intro w hSw; (try dsimp only at hSw); go_simp; all_goals with_reducible rfl
        try simp only [apt12]
        refine tkI 4 ⟨some 19, .fieldAddr 37 (.tmp 18) 0, 0, "ref.go:72", #[⟨3, .data⟩], none⟩ ?v5 rfl (by kernel_rfl) (by rfl) ?y5 ?_
        case y5 => intro w hSw; (try dsimp only at hSw); go_simp; all_goals with_reducible rfl
        try simp only [apt12]
        refine tkI 5 ⟨some 20, .load 3 (.tmp 19), 3, "ref.go:72", #[⟨4, .data⟩], none⟩ ?v6 rfl (by kernel_rfl) (by rfl) ?y6 ?_
        case y6 => intro w hSw; (try dsimp only at hSw); go_simp; all_goals with_reducible rfl
        try simp only [apt12]
        refine tkI 6 ⟨some 21, .convert 3 5 (.tmp 20), 5, "ref.go:72", #[⟨5, .data⟩], none⟩ ?v7 rfl (by kernel_rfl) (by rfl) ?y7 ?_
        case y7 => intro w hSw; (try dsimp only at hSw); go_simp; all_goals with_reducible rfl
        try simp only [apt12]
        refine tkI 7 ⟨some 22, .move (.tmp 0), 29, "ref.go:72", #[], none⟩ ?v8 rfl (by kernel_rfl) (by rfl) ?y8 ?_
        case y8 => intro w hSw; (try dsimp only at hSw); go_simp; all_goals with_reducible rfl
        try simp only [apt12]
        refine tkI 8 ⟨some 23, .move (.tmp 5), 3, "ref.go:72", #[], none⟩ ?v9 rfl (by kernel_rfl) (by rfl) ?y9 ?_
        case y9 => intro w hSw; (try dsimp only at hSw); go_simp; all_goals with_reducible rfl
        try simp only [apt12]
        refine tkI 9 ⟨some 24, .indexAddr 29 (.tmp 22) (.tmp 23), 0, "ref.go:72", #[⟨7, .data⟩, ⟨8, .data⟩], none⟩ ?v10 rfl (by kernel_rfl) (by rfl) ?y10 ?_
        case y10 => intro w hSw; (try dsimp only at hSw); go_simp; all_goals with_reducible rfl
        try simp only [apt12]
        refine tkI 10 ⟨some 25, .fieldAddr 37 (.tmp 24) 1, 0, "ref.go:72", #[⟨9, .data⟩], none⟩ ?v11 rfl (by kernel_rfl) (by rfl) ?y11 ?_
        case y11 => intro w hSw; (try dsimp only at hSw); go_simp; all_goals with_reducible rfl
        try simp only [apt12]
        refine tkI 11 ⟨some 26, .load 3 (.tmp 25), 3, "ref.go:72", #[⟨10, .data⟩], none⟩ ?v12 rfl (by kernel_rfl) (by rfl) ?y12 ?_
        case y12 => intro w hSw; (try dsimp only at hSw); go_simp; all_goals with_reducible rfl
        try simp only [apt12]
        refine tkI 12 ⟨some 27, .convert 3 5 (.tmp 26), 5, "ref.go:72", #[⟨11, .data⟩], none⟩ ?v13 rfl (by kernel_rfl) (by rfl) ?y13 ?_
        case y13 => intro w hSw; (try dsimp only at hSw); go_simp; all_goals with_reducible rfl
        try simp only [apt12]
        refine wpAnyH_ready (rs := [13]) (by kernel_rfl) (by simp) ?_
        refine AllReadyH.cons (i := 13) (o := ⟨some 28, .buildSlice 108 2 #[(0, .tmp 21), (1, .tmp 27)], 108, "ref.go:72", #[⟨6, .data⟩, ⟨12, .data⟩], none⟩) rfl (fun K hK => ?_) AllReadyH.nil
        go_simp
        refine hK.out _ _ ?_ (fun hH1 => ?_)
        · exact ⟨cell_old hH0.1, cell_old hH0.2⟩
        clear hK K
        try simp only [apt12]
        refine wpAnyH_ready (rs := [14]) (by kernel_rfl) (by simp) ?_
        refine AllReadyH.cons (i := 14) (o := ⟨some 29, .convert 108 9 (.tmp 28), 9, "ref.go:72", #[⟨13, .data⟩], none⟩) rfl (fun K hK => ?_) AllReadyH.nil
        have hcv := conv_two11 (w50.alloc (.cells #[.int .u8 op, .int .u8 a] 5)).drew w50.heap.size op a HX.out HY.out ((Lies.new w50 5 _).drew)
        rw [← HU.out] at hcv
        go_simp
        refine hK.out _ _ ?_ (fun hH2 => ?_)
        · exact hH1
        clear hK K
        try simp only [apt12]
        refine tkI 15 ⟨some 30, .binOp .add 9 (.tmp 15) (.tmp 29) 9, 9, "ref.go:72", #[⟨0, .data⟩, ⟨14, .data⟩], none⟩ ?v14 rfl (by kernel_rfl) (by rfl) ?y14 ?_
        case y14 => intro w hSw; (try dsimp only at hSw); go_simp; all_goals with_reducible rfl
        try simp only [apt12]
        refine tkI 16 ⟨some 4, .assign (.tmp 30), 9, "ref.go:72", #[⟨15, .data⟩, ⟨0, .phase⟩, ⟨1, .phase⟩, ⟨2, .phase⟩, ⟨3, .phase⟩, ⟨4, .phase⟩, ⟨5, .phase⟩, ⟨6, .phase⟩, ⟨7, .phase⟩, ⟨8, .phase⟩, ⟨9, .phase⟩, ⟨10, .phase⟩, ⟨11, .phase⟩, ⟨12, .phase⟩, ⟨13, .phase⟩, ⟨14, .phase⟩, ⟨15, .phase⟩], none⟩ ?v15 rfl (by kernel_rfl) (by rfl) ?y15 ?_
        case y15 => intro w hSw; (try dsimp only at hSw); go_simp; all_goals with_reducible rfl
        try simp only [apt12]
        refine wpAnyH_done (by kernel_rfl) ?_ _
        go_wp2_with fail
        go_roundw
        case rel => exact ⟨j + 1, s ++ u, by omega, by go_num, rfl, HN, then_w HB.out ((below_alloc _ _).trans ((Below.refl _ _).drew))⟩
        case measure => simp only [intOf]; omega
      · obtain rfl : j = l.length := by omega
        have hjI : ¬ (l.length : Int) < (l.length : Int) := by omega
        have HC : Hid (Pk11 l = (pk11 l, 0)) := by show _ = _; unfold Pk11; rw [if_pos HALL.out]
        have HE : Hid (s = str (pk11 l)) := by show _ = _; rw [HSJ.out, List.take_length]
        go_wp2_with fail
        go_ret2
        exact ⟨by rw [HC.out, ← HE.out]; rfl, HB.out⟩
end Go.Proofs.YtalfbdigjaibkaaGreat
