/- The document's Pack, and Print. -/
import Derived.Test.YtobelbaeaamkkaaDoorSF11
namespace Go.Proofs.YtobelbaeaamkkaaDoor
open Go.RowKit
set_option maxRecDepth 100000
theorem conv_two11 (W : World) (g : Nat) (x y : Int) (hx : 0 ≤ x ∧ x ≤ 255) (hy : 0 ≤ y ∧ y ≤ 255) (hg : Lies W g 5 #[.int .u8 x, .int .u8 y]) : (convert 40 9 (.slice (some ⟨g, 0, none⟩) 2 2)).run Tryd.prog W = .ok (.string (str [UInt8.ofNat x.toNat, UInt8.ofNat y.toNat])) W := by
  have ex : ((UInt8.ofNat x.toNat).toNat : Int) = x := by rw [UInt8.toNat_ofNat_of_lt' (by show _ < 256; omega)]; omega
  have ey : ((UInt8.ofNat y.toNat).toNat : Int) = y := by rw [UInt8.toNat_ofNat_of_lt' (by show _ < 256; omega)]; omega
  exact run_convert_bytes_back (P := Tryd.prog) W 40 9 5 ⟨g, 0, none⟩ 2 [UInt8.ofNat x.toNat, UInt8.ofNat y.toNat] Tryd.underlying40 Tryd.underlying5 Tryd.underlying9 (fun j hj => by
    have hj2 : j < 2 := hj
    rw [Addr.add_lit, Nat.zero_add, hg.cell]
    rcases (by omega : j = 0 ∨ j = 1) with rfl | rfl
    · show _ = some (Value.int .u8 ((UInt8.ofNat x.toNat).toNat : Int))
      rw [ex]; rfl
    · show _ = some (Value.int .u8 ((UInt8.ofNat y.toNat).toNat : Int))
      rw [ey]; rfl)
theorem ln_len11 {x : In} (h : may11 x = true) : (ln11 x).length ≤ 16 := by
  obtain ⟨p1, p2, p3, p4⟩ := may_parts11 h
  have hw : (wd11 x.op).length ≤ 8 := by
    have := wd_len11 x.op.toNat (by omega)
    rwa [show ((x.op.toNat : Nat) : Int) = x.op by omega] at this
  have h1 := dg_len11 x.a
  have h2 := dg_len11 (x.a / 8)
  have h3 := dg_len11 (x.a % 8)
  unfold ln11
  split
  · omega
  · split <;> simp <;> omega
theorem pr_len11 {l : List In} (h : ∀ x ∈ l, may11 x = true) : (pr11 l).length ≤ 17 * l.length := by
  induction l with
  | nil => simp [pr11]
  | cons x l ih =>
    have e : pr11 (x :: l) = ln11 x ++ [10] ++ pr11 l := List.flatMap_cons ..
    have h1 := ln_len11 (h x (by simp))
    have h2 := ih fun y hy => h y (by simp [hy])
    have h4 : (x :: l).length = l.length + 1 := rfl
    have h5 : ([10] : List UInt8).length = 1 := rfl
    rw [e, List.length_append, List.length_append]
    omega
set_option maxHeartbeats 1000000 in
theorem pack_any11 (l : List In) (A : Option Addr) (c : Nat) (w : World) (hs : InsR w A l) (fl : l.length ≤ 1000) :
    Calls Tryd.prog 13 #[.slice A l.length c] w fun e w' => e = .returned (.tuple #[.string (str (Pk11 l).1), .int .i64 (Pk11 l).2]) ∧ Below w.heap.size w w' := by
  have HS := hid hs
  have hl1 : (l.length : Int) ≤ 1000 := by omega
  have HZ : Hid ((⟨#[]⟩ : ByteArray) = str []) := rfl
  clear hs
  go_enter Tryd.func13, Tryd.ntmps13
  go_wp2_with fail
  refine (all_any11 l A c _ HS.out fl).mono ?_
  rintro e w1 ⟨rfl, hb⟩
  have HB1 := hid hb
  clear hb
  cases hall : all11 l
  · have HC : Hid (Pk11 l = ([], 110)) := by show _ = _; unfold Pk11; rw [hall]; rfl
    clear hall
    go_wp2_with fail
    go_ret2
    exact ⟨by rw [HC.out]; rfl, HB1.out⟩
  · have HALL := hid hall
    clear hall
    go_wp2_with fail
    go_loopw [4, 5] (fun t i wr => ∃ (j : Nat) (s : ByteArray), j ≤ l.length ∧ i = .int .i64 j ∧ t = .string s ∧ Hid (s = str (pk11 (l.take j))) ∧ Below w.heap.size w wr) (fun _ i _ => l.length + 1 - (intOf i).toNat)
    case atStart => exact ⟨0, ⟨#[]⟩, by omega, rfl, rfl, HZ, HB1.out⟩
    case round =>
      rename World => w50
      obtain ⟨j, s, hjl, rfl, rfl, HSJ, hb⟩ := hrel
      have HB := hid hb
      clear hb
      have hjw : IntKind.i64.wrap ((j : Int) + 1) = (j : Int) + 1 := IntWalk.i64_in _ ⟨by omega, by omega⟩
      have hj0 : (0 : Int) ≤ (j : Int) := by omega
      by_cases hj : j < l.length
      · have hjI : (j : Int) < (l.length : Int) := by omega
        obtain ⟨b, off, rfl, hlt, hc⟩ := HS.out (by omega)
        have ha := hc j _ (List.getElem?_eq_getElem hj)
        have HTK : Hid (l.take (j + 1) = l.take j ++ [l[j]'hj]) := by show _ = _; rw [List.take_succ_eq_append_getElem hj]
        have HMEM : l[j]'hj ∈ l := List.getElem_mem hj
        obtain ⟨x, hx⟩ : ∃ x, x = l[j]'hj := ⟨_, rfl⟩
        rw [← hx] at ha HTK HMEM
        have HM := hid (all_may11 HALL.out x HMEM)
        have hsz : s.size ≤ 17 * j := by
          have h1 : ∀ y ∈ l.take j, may11 y = true := fun y hy => all_may11 HALL.out y (List.mem_of_mem_take hy)
          have h2 : (l.take j).length = j := by rw [List.length_take]; omega
          rw [HSJ.out, str_size]
          have := pk_len11 (l.take j)
          omega
        have hj1000 : j ≤ 1000 := by omega
        have g0 := cell_later HB.out ha.1
        have g1 := cell_later HB.out ha.2
        clear ha hx hc hlt HMEM
        obtain ⟨op, a⟩ := x
        simp only at g0 g1
        obtain ⟨p1, p2, p3, p4⟩ := may_parts11 HM.out
        simp only at p1 p2 p3 p4
        have HX : Hid (0 ≤ op ∧ op ≤ 255) := ⟨by omega, by omega⟩
        have HY : Hid (0 ≤ a ∧ a ≤ 255) := ⟨by omega, by omega⟩
        have u1 : IntKind.u8.wrap op = op := IntWalk.u8_in _ ⟨by omega, by omega⟩
        have u2 : IntKind.u8.wrap a = a := IntWalk.u8_in _ ⟨by omega, by omega⟩
        obtain ⟨u, hu⟩ : ∃ u, u = str [UInt8.ofNat op.toNat, UInt8.ofNat a.toNat] := ⟨_, rfl⟩
        have hus : u.size = 2 := by rw [hu, str_size]; rfl
        have c1 : ¬ 9223372036854775807 < s.size + u.size := by omega
        have c2 : ¬ 9223372036854775807 < s.size + 2 := by omega
        have HU := hid hu
        have HN : Hid (s ++ u = str (pk11 (l.take (j + 1)))) := by
          show _ = _
          rw [HTK.out, pk_app11, ← str_append, ← HSJ.out, hu]; rfl
        clear hu p1 p2 p3 p4
        go_upto_region 7 with fail
        refine wp_region_held_drew (S := (fun w' => w'.cell? ⟨b, off + j * 2, none⟩ = some (.int .i64 op) ∧ w'.cell? ⟨b, off + j * 2 + 1, none⟩ = some (.int .i64 a))) (by kernel_rfl) ?_ (fun hH0 => ?_)
        · exact ⟨g0, g1⟩
        refine wpAnyH_take (i := 0) (oi := { dst := some 15, op := Go.Op.move (Go.Operand.tmp 4), type := 9, pos := "ref.go:72", after := #[], guard := none }) (v := ?vv34) rfl (by kernel_rfl) (by kernel_rfl) (by kernel_rfl) (fun _ _ _ h => h) (Or.inl ⟨by rfl, ?hy34⟩) (by assumption) ?rr34
        case hy34 => intro w hSw; (try dsimp only at hSw); go_simp; all_goals with_reducible rfl
        try simp only [Act.put, List.setIfInBounds_toArray, List.set_cons_zero, List.set_cons_succ]
        refine wpAnyH_take (i := 1) (oi := { dst := some 16, op := Go.Op.move (Go.Operand.tmp 0), type := 22, pos := "ref.go:72", after := #[], guard := none }) (v := ?vv35) rfl (by kernel_rfl) (by kernel_rfl) (by kernel_rfl) (fun _ _ _ h => h) (Or.inl ⟨by rfl, ?hy35⟩) (by assumption) ?rr35
        case hy35 => intro w hSw; (try dsimp only at hSw); go_simp; all_goals with_reducible rfl
        try simp only [Act.put, List.setIfInBounds_toArray, List.set_cons_zero, List.set_cons_succ]
        refine wpAnyH_take (i := 2) (oi := { dst := some 17, op := Go.Op.move (Go.Operand.tmp 5), type := 3, pos := "ref.go:72", after := #[], guard := none }) (v := ?vv36) rfl (by kernel_rfl) (by kernel_rfl) (by kernel_rfl) (fun _ _ _ h => h) (Or.inl ⟨by rfl, ?hy36⟩) (by assumption) ?rr36
        case hy36 => intro w hSw; (try dsimp only at hSw); go_simp; all_goals with_reducible rfl
        try simp only [Act.put, List.setIfInBounds_toArray, List.set_cons_zero, List.set_cons_succ]
        refine wpAnyH_take (i := 3) (oi := { dst := some 18, op := Go.Op.indexAddr 22 (Go.Operand.tmp 16) (Go.Operand.tmp 17), type := 0, pos := "ref.go:72", after := #[{ on := 1, ground := Go.Ground.data }, { on := 2, ground := Go.Ground.data }], guard := none }) (v := ?vv37) rfl (by kernel_rfl) (by kernel_rfl) (by kernel_rfl) (fun _ _ _ h => h) (Or.inl ⟨by rfl, ?hy37⟩) (by assumption) ?rr37
        case hy37 => intro w hSw; (try dsimp only at hSw); go_simp; all_goals with_reducible rfl
        try simp only [Act.put, List.setIfInBounds_toArray, List.set_cons_zero, List.set_cons_succ]
        refine wpAnyH_take (i := 4) (oi := { dst := some 19, op := Go.Op.fieldAddr 34 (Go.Operand.tmp 18) 0, type := 0, pos := "ref.go:72", after := #[{ on := 3, ground := Go.Ground.data }], guard := none }) (v := ?vv38) rfl (by kernel_rfl) (by kernel_rfl) (by kernel_rfl) (fun _ _ _ h => h) (Or.inl ⟨by rfl, ?hy38⟩) (by assumption) ?rr38
        case hy38 => intro w hSw; (try dsimp only at hSw); go_simp; all_goals with_reducible rfl
        try simp only [Act.put, List.setIfInBounds_toArray, List.set_cons_zero, List.set_cons_succ]
        refine wpAnyH_take (i := 5) (oi := { dst := some 20, op := Go.Op.load 3 (Go.Operand.tmp 19), type := 3, pos := "ref.go:72", after := #[{ on := 4, ground := Go.Ground.data }], guard := none }) (v := ?vv39) rfl (by kernel_rfl) (by kernel_rfl) (by kernel_rfl) (fun _ _ _ h => h) (Or.inl ⟨by rfl, ?hy39⟩) (by assumption) ?rr39
        case hy39 => intro w hSw; (try dsimp only at hSw); go_simp; all_goals with_reducible rfl
        try simp only [Act.put, List.setIfInBounds_toArray, List.set_cons_zero, List.set_cons_succ]
        refine wpAnyH_take (i := 6) (oi := { dst := some 21, op := Go.Op.convert 3 5 (Go.Operand.tmp 20), type := 5, pos := "ref.go:72", after := #[{ on := 5, ground := Go.Ground.data }], guard := none }) (v := ?vv40) rfl (by kernel_rfl) (by kernel_rfl) (by kernel_rfl) (fun _ _ _ h => h) (Or.inl ⟨by rfl, ?hy40⟩) (by assumption) ?rr40
        case hy40 => intro w hSw; (try dsimp only at hSw); go_simp; all_goals with_reducible rfl
        try simp only [Act.put, List.setIfInBounds_toArray, List.set_cons_zero, List.set_cons_succ]
        refine wpAnyH_take (i := 7) (oi := { dst := some 22, op := Go.Op.move (Go.Operand.tmp 0), type := 22, pos := "ref.go:72", after := #[], guard := none }) (v := ?vv41) rfl (by kernel_rfl) (by kernel_rfl) (by kernel_rfl) (fun _ _ _ h => h) (Or.inl ⟨by rfl, ?hy41⟩) (by assumption) ?rr41
        case hy41 => intro w hSw; (try dsimp only at hSw); go_simp; all_goals with_reducible rfl
        try simp only [Act.put, List.setIfInBounds_toArray, List.set_cons_zero, List.set_cons_succ]
        refine wpAnyH_take (i := 8) (oi := { dst := some 23, op := Go.Op.move (Go.Operand.tmp 5), type := 3, pos := "ref.go:72", after := #[], guard := none }) (v := ?vv42) rfl (by kernel_rfl) (by kernel_rfl) (by kernel_rfl) (fun _ _ _ h => h) (Or.inl ⟨by rfl, ?hy42⟩) (by assumption) ?rr42
        case hy42 => intro w hSw; (try dsimp only at hSw); go_simp; all_goals with_reducible rfl
        try simp only [Act.put, List.setIfInBounds_toArray, List.set_cons_zero, List.set_cons_succ]
        refine wpAnyH_take (i := 9) (oi := { dst := some 24, op := Go.Op.indexAddr 22 (Go.Operand.tmp 22) (Go.Operand.tmp 23), type := 0, pos := "ref.go:72", after := #[{ on := 7, ground := Go.Ground.data }, { on := 8, ground := Go.Ground.data }], guard := none }) (v := ?vv43) rfl (by kernel_rfl) (by kernel_rfl) (by kernel_rfl) (fun _ _ _ h => h) (Or.inl ⟨by rfl, ?hy43⟩) (by assumption) ?rr43
        case hy43 => intro w hSw; (try dsimp only at hSw); go_simp; all_goals with_reducible rfl
        try simp only [Act.put, List.setIfInBounds_toArray, List.set_cons_zero, List.set_cons_succ]
        refine wpAnyH_take (i := 10) (oi := { dst := some 25, op := Go.Op.fieldAddr 34 (Go.Operand.tmp 24) 1, type := 0, pos := "ref.go:72", after := #[{ on := 9, ground := Go.Ground.data }], guard := none }) (v := ?vv44) rfl (by kernel_rfl) (by kernel_rfl) (by kernel_rfl) (fun _ _ _ h => h) (Or.inl ⟨by rfl, ?hy44⟩) (by assumption) ?rr44
        case hy44 => intro w hSw; (try dsimp only at hSw); go_simp; all_goals with_reducible rfl
        try simp only [Act.put, List.setIfInBounds_toArray, List.set_cons_zero, List.set_cons_succ]
        refine wpAnyH_take (i := 11) (oi := { dst := some 26, op := Go.Op.load 3 (Go.Operand.tmp 25), type := 3, pos := "ref.go:72", after := #[{ on := 10, ground := Go.Ground.data }], guard := none }) (v := ?vv45) rfl (by kernel_rfl) (by kernel_rfl) (by kernel_rfl) (fun _ _ _ h => h) (Or.inl ⟨by rfl, ?hy45⟩) (by assumption) ?rr45
        case hy45 => intro w hSw; (try dsimp only at hSw); go_simp; all_goals with_reducible rfl
        try simp only [Act.put, List.setIfInBounds_toArray, List.set_cons_zero, List.set_cons_succ]
        refine wpAnyH_take (i := 12) (oi := { dst := some 27, op := Go.Op.convert 3 5 (Go.Operand.tmp 26), type := 5, pos := "ref.go:72", after := #[{ on := 11, ground := Go.Ground.data }], guard := none }) (v := ?vv46) rfl (by kernel_rfl) (by kernel_rfl) (by kernel_rfl) (fun _ _ _ h => h) (Or.inl ⟨by rfl, ?hy46⟩) (by assumption) ?rr46
        case hy46 => intro w hSw; (try dsimp only at hSw); go_simp; all_goals with_reducible rfl
        try simp only [Act.put, List.setIfInBounds_toArray, List.set_cons_zero, List.set_cons_succ]
        refine wpAnyH_ready (rs := [13]) (by kernel_rfl) (by simp) ?_
        refine AllReadyH.cons (i := 13) (o := { dst := some 28, op := Go.Op.buildSlice 40 2 #[(0, Go.Operand.tmp 21), (1, Go.Operand.tmp 27)], type := 40, pos := "ref.go:72", after := #[{ on := 6, ground := Go.Ground.data }, { on := 12, ground := Go.Ground.data }], guard := none }) rfl (fun K hK => ?_) AllReadyH.nil
        go_simp
        refine hK.out _ _ ?_ (fun hH1 => ?_)
        · exact ⟨cell_old hH0.1, cell_old hH0.2⟩
        clear hK K
        try simp only [Act.put, List.setIfInBounds_toArray, List.set_cons_zero, List.set_cons_succ]
        refine wpAnyH_ready (rs := [14]) (by kernel_rfl) (by simp) ?_
        refine AllReadyH.cons (i := 14) (o := { dst := some 29, op := Go.Op.convert 40 9 (Go.Operand.tmp 28), type := 9, pos := "ref.go:72", after := #[{ on := 13, ground := Go.Ground.data }], guard := none }) rfl (fun K hK => ?_) AllReadyH.nil
        have hcv := conv_two11 (w50.alloc (.cells #[.int .u8 op, .int .u8 a] 5)).drew w50.heap.size op a HX.out HY.out ((Lies.new w50 5 _).drew)
        rw [← HU.out] at hcv
        go_simp
        refine hK.out _ _ ?_ (fun hH2 => ?_)
        · exact hH1
        clear hK K
        try simp only [Act.put, List.setIfInBounds_toArray, List.set_cons_zero, List.set_cons_succ]
        refine wpAnyH_take (i := 15) (oi := { dst := some 30, op := Go.Op.binOp Go.BinOp.add 9 (Go.Operand.tmp 15) (Go.Operand.tmp 29) 9, type := 9, pos := "ref.go:72", after := #[{ on := 0, ground := Go.Ground.data }, { on := 14, ground := Go.Ground.data }], guard := none }) (v := ?vv47) rfl (by kernel_rfl) (by kernel_rfl) (by kernel_rfl) (fun _ _ _ h => h) (Or.inl ⟨by rfl, ?hy47⟩) (by assumption) ?rr47
        case hy47 => intro w hSw; (try dsimp only at hSw); go_simp; all_goals with_reducible rfl
        try simp only [Act.put, List.setIfInBounds_toArray, List.set_cons_zero, List.set_cons_succ]
        refine wpAnyH_take (i := 16) (oi := { dst := some 4, op := Go.Op.assign (Go.Operand.tmp 30), type := 9, pos := "ref.go:72", after := #[{ on := 15, ground := Go.Ground.data }, { on := 0, ground := Go.Ground.phase }, { on := 1, ground := Go.Ground.phase }, { on := 2, ground := Go.Ground.phase }, { on := 3, ground := Go.Ground.phase }, { on := 4, ground := Go.Ground.phase }, { on := 5, ground := Go.Ground.phase }, { on := 6, ground := Go.Ground.phase }, { on := 7, ground := Go.Ground.phase }, { on := 8, ground := Go.Ground.phase }, { on := 9, ground := Go.Ground.phase }, { on := 10, ground := Go.Ground.phase }, { on := 11, ground := Go.Ground.phase }, { on := 12, ground := Go.Ground.phase }, { on := 13, ground := Go.Ground.phase }, { on := 14, ground := Go.Ground.phase }, { on := 15, ground := Go.Ground.phase }], guard := none }) (v := ?vv48) rfl (by kernel_rfl) (by kernel_rfl) (by kernel_rfl) (fun _ _ _ h => h) (Or.inl ⟨by rfl, ?hy48⟩) (by assumption) ?rr48
        case hy48 => intro w hSw; (try dsimp only at hSw); go_simp; all_goals with_reducible rfl
        try simp only [Act.put, List.setIfInBounds_toArray, List.set_cons_zero, List.set_cons_succ]
        refine wpAnyH_done (by kernel_rfl) ?_ _
        go_wp2_with fail
        go_roundw
        case rel => exact ⟨j + 1, s ++ u, by omega, by go_num, rfl, HN, then_w HB.out ((below_alloc _ _).trans ((Below.refl _ _).drew))⟩
        case measure => simp only [intOf]; omega
      · obtain rfl : j = l.length := by omega
        have hjI : ¬ (l.length : Int) < (l.length : Int) := by omega
        have HC : Hid (Pk11 l = (pk11 l, 0)) := by show _ = _; unfold Pk11; rw [if_pos HALL.out]
        have HE : Hid (s = str (pk11 l)) := by show _ = _; rw [HSJ.out, List.take_length]
        go_wp2_with fail
        go_ret2
        exact ⟨by rw [HC.out, ← HE.out]; rfl, HB.out⟩
set_option maxHeartbeats 1000000 in
theorem print_any11 (l : List In) (A : Option Addr) (c : Nat) (w : World) (hs : InsR w A l) (fl : l.length ≤ 1000) :
    Calls Tryd.prog 15 #[.slice A l.length c] w fun e w' => e = .returned (.tuple #[.string (str (Pr11 l).1), .int .i64 (Pr11 l).2]) ∧ Below w.heap.size w w' := by
  have HS := hid hs
  have hl1 : (l.length : Int) ≤ 1000 := by omega
  have HZ : Hid ((⟨#[]⟩ : ByteArray) = str []) := rfl
  clear hs
  go_enter Tryd.func15, Tryd.ntmps15
  go_wp2_with fail
  refine (all_any11 l A c _ HS.out fl).mono ?_
  rintro e w1 ⟨rfl, hb⟩
  have HB1 := hid hb
  clear hb
  cases hall : all11 l
  · have HC : Hid (Pr11 l = ([], 110)) := by show _ = _; unfold Pr11; rw [hall]; rfl
    clear hall
    go_wp2_with fail
    go_ret2
    exact ⟨by rw [HC.out]; rfl, HB1.out⟩
  · have HALL := hid hall
    clear hall
    go_wp2_with fail
    go_loopw [4, 5] (fun t i wr => ∃ (j : Nat) (s : ByteArray), j ≤ l.length ∧ i = .int .i64 j ∧ t = .string s ∧ Hid (s = str (pr11 (l.take j))) ∧ Below w.heap.size w wr) (fun _ i _ => l.length + 1 - (intOf i).toNat)
    case atStart => exact ⟨0, ⟨#[]⟩, by omega, rfl, rfl, HZ, HB1.out⟩
    case round =>
      rename World => w50
      obtain ⟨j, s, hjl, rfl, rfl, HSJ, hb⟩ := hrel
      have HB := hid hb
      clear hb
      have hjw : IntKind.i64.wrap ((j : Int) + 1) = (j : Int) + 1 := IntWalk.i64_in _ ⟨by omega, by omega⟩
      have hj0 : (0 : Int) ≤ (j : Int) := by omega
      by_cases hj : j < l.length
      · have hjI : (j : Int) < (l.length : Int) := by omega
        obtain ⟨b, off, rfl, hlt, hc⟩ := HS.out (by omega)
        have ha := hc j _ (List.getElem?_eq_getElem hj)
        have HTK : Hid (l.take (j + 1) = l.take j ++ [l[j]'hj]) := by show _ = _; rw [List.take_succ_eq_append_getElem hj]
        have HMEM : l[j]'hj ∈ l := List.getElem_mem hj
        obtain ⟨x, hx⟩ : ∃ x, x = l[j]'hj := ⟨_, rfl⟩
        rw [← hx] at ha HTK HMEM
        have HM := hid (all_may11 HALL.out x HMEM)
        have hsz : s.size ≤ 17 * j := by
          have h1 : ∀ y ∈ l.take j, may11 y = true := fun y hy => all_may11 HALL.out y (List.mem_of_mem_take hy)
          have h2 : (l.take j).length = j := by rw [List.length_take]; omega
          rw [HSJ.out, str_size]
          have := pr_len11 h1
          omega
        have hj1000 : j ≤ 1000 := by omega
        have g0 := cell_later HB.out ha.1
        have g1 := cell_later HB.out ha.2
        clear ha hx hc hlt HMEM
        obtain ⟨op, a⟩ := x
        simp only at g0 g1
        obtain ⟨u, hu⟩ : ∃ u, u = str (ln11 ⟨op, a⟩) := ⟨_, rfl⟩
        have hus : u.size ≤ 16 := by rw [hu, str_size]; exact ln_len11 HM.out
        have c1 : ¬ 9223372036854775807 < u.size + 1 := by omega
        have c2 : ¬ 9223372036854775807 < s.size + (u.size + 1) := by omega
        have HU := hid hu
        have HN : Hid (s ++ (u ++ ⟨#[10]⟩) = str (pr11 (l.take (j + 1)))) := by
          show _ = _
          have e : (⟨#[10]⟩ : ByteArray) = str [10] := rfl
          rw [HTK.out, pr_app11, ← str_append, ← HSJ.out, hu, e, str_append]
          simp [pr11]
        clear hu
        go_wp2_with fail
        refine (line_any11 ⟨op, a⟩ HM.out _).mono ?_
        rintro e w51 ⟨rfl, hb⟩
        rw [← HU.out]
        have HB2 := hid (then_w HB.out hb)
        clear hb g0 g1
        go_wp2_with fail
        go_roundw
        case rel => exact ⟨j + 1, s ++ (u ++ ⟨#[10]⟩), by omega, by go_num, rfl, HN, HB2.out⟩
        case measure => simp only [intOf]; omega
      · obtain rfl : j = l.length := by omega
        have hjI : ¬ (l.length : Int) < (l.length : Int) := by omega
        have HC : Hid (Pr11 l = (pr11 l, 0)) := by show _ = _; unfold Pr11; rw [if_pos HALL.out]
        have HE : Hid (s = str (pr11 l)) := by show _ = _; rw [HSJ.out, List.take_length]
        go_wp2_with fail
        go_ret2
        exact ⟨by rw [HC.out, ← HE.out]; rfl, HB.out⟩
end Go.Proofs.YtobelbaeaamkkaaDoor
