/- SnapSums walked: whatever heap, place and mask, it answers true. -/
import Derived.Test.YthggafdfglojaaaKI8
import Derived.Test.YthggafdfglojaaaRF
import Derived.Test.YthggafdfglojaaaS
namespace Go.Proofs.Ythggafdfglojaaa
open Go.RowKit
set_option maxRecDepth 100000
theorem conv_one8 (W : World) (g t y : Nat) (hy : y < 256) (hc : Lies W g t #[.int .u8 (y : Int)]) : (convert 54 9 (.slice (some ⟨g, 0, none⟩) 1 1)).run Try.prog W = .ok (.string ⟨#[UInt8.ofNat y]⟩) W := by
  have := run_convert_bytes_back (P := Try.prog) W 54 9 5 ⟨g, 0, none⟩ 1 [UInt8.ofNat y] Try.underlying54 Try.underlying5 Try.underlying9 (fun j hj => by
    obtain rfl : j = 0 := by simp at hj; omega
    rw [Addr.add_lit, Nat.zero_add, hc.cell]
    have hxx : (UInt8.ofNat y).toNat = y := by rw [UInt8.toNat_ofNat']; omega
    simp [hxx])
  simpa using this
theorem xor_other8 {c m : Nat} (h : m ≠ 0) : c ^^^ m ≠ c := fun e => h (by
  have e2 := congrArg (c ^^^ ·) e
  simpa only [← Nat.xor_assoc, Nat.xor_self, Nat.zero_xor] using e2)
theorem put8 {b s : List UInt8} {j : Nat} (hj : j < b.length) (y : UInt8) : (b ++ s).take j ++ [y] ++ (b ++ s).drop (j + 1) = (b.take j ++ y :: b.drop (j + 1)) ++ s := by
  rw [List.take_append_of_le_length (by omega), List.drop_append_of_le_length (by omega)]
  simp
theorem part8 {b : List UInt8} {j : Nat} (hj : j < b.length) : b = b.take j ++ b[j] :: b.drop (j + 1) := by
  rw [← List.drop_eq_getElem_cons hj, List.take_append_drop]
set_option maxHeartbeats 1500000 in
theorem sums8_any (h : Hp) (at_ mk : Int) (A : Option Addr) (c : Nat) (w : World) (hs : ObsR w A h.objs) (fit : h.Fit) :
    Calls Try.prog 11 #[.agg #[.slice A h.objs.length c, .int .i64 h.cap, .int .i64 h.last], .int .i64 at_, .int .i64 mk] w fun e w' => e = .returned (.bool true) ∧ Below w.heap.size w w' := by
  have HB0 := hid (below_alloc w (.cells #[Value.slice A h.objs.length c, Value.int .i64 h.cap, Value.int .i64 h.last] 24))
  have X0 := hid (Lies.new w 24 #[Value.slice A h.objs.length c, Value.int .i64 h.cap, Value.int .i64 h.last])
  have O0 := hid (hs.below HB0.out)
  have HF := hid fit
  clear hs fit
  go_enter Try.func11, Try.ntmps11
  have x0 := X0.out.cell 0
  have x1 := X0.out.cell 1
  have x2 := X0.out.cell 2
  simp only [List.getElem?_toArray, List.getElem?_cons_zero, List.getElem?_cons_succ] at x0 x1 x2
  go_wp2_with fail
  refine (fixed8_any _).mono ?_
  rintro e w1 ⟨rfl, hb⟩
  have HB1 := hid (HB0.out.trans (hb.mono HB0.out.size))
  have X1 := hid (X0.out.later hb)
  have O1 := hid (O0.out.below hb)
  clear x0 x1 x2
  clear hb
  have x0 := X1.out.cell 0
  have x1 := X1.out.cell 1
  have x2 := X1.out.cell 2
  simp only [List.getElem?_toArray, List.getElem?_cons_zero, List.getElem?_cons_succ] at x0 x1 x2
  go_wp2_with fail
  refine (small_ok h A c _ O1.out HF.out).mono ?_
  rintro e w2 ⟨sm, rfl, hb⟩
  have HB2 := hid (HB1.out.trans (hb.mono HB1.out.size))
  have X2 := hid (X1.out.later hb)
  have O2 := hid (O1.out.below hb)
  clear x0 x1 x2
  clear hb
  have x0 := X2.out.cell 0
  have x1 := X2.out.cell 1
  have x2 := X2.out.cell 2
  simp only [List.getElem?_toArray, List.getElem?_cons_zero, List.getElem?_cons_succ] at x0 x1 x2
  cases sm
  · go_wp2_with fail
    refine (fixed8_any _).mono ?_
    rintro e w3 ⟨rfl, hb⟩
    have HB3 := hid (HB2.out.trans (hb.mono HB2.out.size))
    have X3 := hid (X2.out.later hb)
    have O3 := hid (O2.out.below hb)
    clear x0 x1 x2
    clear hb
    have x0 := X3.out.cell 0
    have x1 := X3.out.cell 1
    have x2 := X3.out.cell 2
    simp only [List.getElem?_toArray, List.getElem?_cons_zero, List.getElem?_cons_succ] at x0 x1 x2
    go_wp2_with fail
    go_ret
    exact ⟨rfl, HB3.out⟩
  · go_wp2_with fail
    refine (rmay_any h A c _ O2.out HF.out).mono ?_
    rintro e w3 ⟨rfl, hb⟩
    have HB3 := hid (HB2.out.trans (hb.mono HB2.out.size))
    have X3 := hid (X2.out.later hb)
    have O3 := hid (O2.out.below hb)
    clear x0 x1 x2
    clear hb
    have x0 := X3.out.cell 0
    have x1 := X3.out.cell 1
    have x2 := X3.out.cell 2
    simp only [List.getElem?_toArray, List.getElem?_cons_zero, List.getElem?_cons_succ] at x0 x1 x2
    cases hm : mayB h
    · go_wp2_with fail
      refine (fixed8_any _).mono ?_
      rintro e w4 ⟨rfl, hb⟩
      have HB4 := hid (HB3.out.trans (hb.mono HB3.out.size))
      have X4 := hid (X3.out.later hb)
      have O4 := hid (O3.out.below hb)
      clear x0 x1 x2
      clear hb
      have x0 := X4.out.cell 0
      have x1 := X4.out.cell 1
      have x2 := X4.out.cell 2
      simp only [List.getElem?_toArray, List.getElem?_cons_zero, List.getElem?_cons_succ] at x0 x1 x2
      go_wp2_with fail
      go_ret
      exact ⟨rfl, HB4.out⟩
    · have HM := hid hm
      clear hm
      by_cases q1 : mk < 1
      · go_wp2_with fail
        refine (fixed8_any _).mono ?_
        rintro e w4 ⟨rfl, hb⟩
        have HB4 := hid (HB3.out.trans (hb.mono HB3.out.size))
        have X4 := hid (X3.out.later hb)
        have O4 := hid (O3.out.below hb)
        clear x0 x1 x2
        clear hb
        have x0 := X4.out.cell 0
        have x1 := X4.out.cell 1
        have x2 := X4.out.cell 2
        simp only [List.getElem?_toArray, List.getElem?_cons_zero, List.getElem?_cons_succ] at x0 x1 x2
        go_wp2_with fail
        go_ret
        exact ⟨rfl, HB4.out⟩
      · by_cases q2 : 255 < mk
        · go_wp2_with fail
          refine (fixed8_any _).mono ?_
          rintro e w4 ⟨rfl, hb⟩
          have HB4 := hid (HB3.out.trans (hb.mono HB3.out.size))
          have X4 := hid (X3.out.later hb)
          have O4 := hid (O3.out.below hb)
          clear x0 x1 x2
          clear hb
          have x0 := X4.out.cell 0
          have x1 := X4.out.cell 1
          have x2 := X4.out.cell 2
          simp only [List.getElem?_toArray, List.getElem?_cons_zero, List.getElem?_cons_succ] at x0 x1 x2
          go_wp2_with fail
          go_ret
          exact ⟨rfl, HB4.out⟩
        · have hmr : mayR h [] = true := by
            show ([].all (hasB h.objs.length) && (mayB h && decide (([] : List Int).length ≤ 64))) = true
            rw [HM.out]; rfl
          have HMR := hid hmr
          obtain ⟨E, hE⟩ : ∃ E, E = encE h [] := ⟨_, rfl⟩
          obtain ⟨b0, hb0⟩ : ∃ b, b = bodyE h [] := ⟨_, rfl⟩
          obtain ⟨s4, hs4⟩ : ∃ b, b = n4 (su8 b0) := ⟨_, rfl⟩
          have hEE : E = b0 ++ s4 := by rw [hE, enc_yes hmr, hs4, hb0]
          have hs4l : s4.length = 4 := by rw [hs4]; exact n4_len _
          have hEl : E.length = b0.length + 4 := by rw [hEE, List.length_append, hs4l]
          have hb19 : 19 ≤ b0.length := by rw [hb0, body_size hmr]; omega
          have hEb : E.length ≤ 100000 := by rw [hE]; exact enc_len8 h []
          have hz := str_size E
          have HE := hid hE
          have HB0B := hid hb0
          have HS4 := hid hs4
          have HEE := hid hEE
          have HS4L := hid hs4l
          have ewr : IntKind.i64.wrap ((E.length : Int) - 4) = (E.length : Int) - 4 := IntWalk.i64_in _ ⟨by omega, by omega⟩
          have ewr2 : wrap64 ((E.length : Int) - 4) = (E.length : Int) - 4 := wrap64_fit (by omega) (by omega)
          clear hmr hE hb0 hs4 hEE hs4l
          go_wp2_with fail
          refine (enc_any8 h [] A none c 0 _ O3.out HF.out (nil_ints _) (by decide)).mono ?_
          rintro e w4 ⟨rfl, hb⟩
          rw [← HE.out]
          have HB4 := hid (HB3.out.trans (hb.mono HB3.out.size))
          have X4 := hid (X3.out.later hb)
          have O4 := hid (O3.out.below hb)
          clear x0 x1 x2
          clear hb
          have x0 := X4.out.cell 0
          have x1 := X4.out.cell 1
          have x2 := X4.out.cell 2
          simp only [List.getElem?_toArray, List.getElem?_cons_zero, List.getElem?_cons_succ] at x0 x1 x2
          by_cases q3 : at_ < 0
          · go_wp2_with fail
            go_ret
            exact ⟨rfl, HB4.out⟩
          · by_cases q4 : (E.length : Int) - 4 ≤ at_
            · go_wp2_with fail
              go_ret
              exact ⟨rfl, HB4.out⟩
            · obtain ⟨j, rfl⟩ : ∃ k : Nat, at_ = k := ⟨at_.toNat, by omega⟩
              obtain ⟨m, rfl⟩ : ∃ k : Nat, mk = k := ⟨mk.toNat, by omega⟩
              have hj : j < b0.length := by omega
              have hjE : j < E.length := by omega
              have hjs : j < (str E).size := by omega
              have hm0 : m ≠ 0 := by omega
              have hml : m < 256 := by omega
              obtain ⟨cc, hc⟩ : ∃ c, c = (E[j]'hjE).toNat := ⟨_, rfl⟩
              have hcl : cc < 256 := by rw [hc]; exact (E[j]'hjE).toNat_lt
              have hcb : cc = (b0[j]'hj).toNat := by
                rw [hc]
                congr 1
                simp only [HEE.out]
                rw [List.getElem_append_left]
              obtain ⟨y, hy⟩ : ∃ y, y = cc ^^^ m := ⟨_, rfl⟩
              have hyl : y < 256 := by rw [hy]; exact Nat.xor_lt_two_pow (n := 8) hcl hml
              have hyc : y ≠ cc := by rw [hy]; exact xor_other8 hm0
              have HYL := hid hyl
              have t0 : (((str E)[j]'hjs).toNat : Int) = (cc : Int) := (congrArg (fun b : UInt8 => (b.toNat : Int)) (str_at E j hjs hjE)).trans (by rw [hc])
              have t1 : IntKind.u8.wrap (m : Int) = m := IntWalk.u8_in _ ⟨by omega, by omega⟩
              have t2 : bits .xor .u8 (cc : Int) (m : Int) = (y : Int) := by rw [hy]; exact u8_xor_nat cc m hcl hml
              have t3 : IntKind.i64.wrap ((j : Int) + 1) = (j : Int) + 1 := IntWalk.i64_in _ ⟨by omega, by omega⟩
              have t4 : (0 : Int) ≤ (j : Int) + 1 := by omega
              have t5 : (j : Int) + 1 ≤ (E.length : Int) := by omega
              have t6 : j ≤ E.length := by omega
              obtain ⟨u, hu⟩ : ∃ u, u = b0.take j ++ UInt8.ofNat y :: b0.drop (j + 1) := ⟨_, rfl⟩
              have hyb : b0[j]'hj ≠ UInt8.ofNat y := fun e => hyc (by rw [hcb, e, UInt8.toNat_ofNat']; omega)
              have hul : u.length = b0.length := by rw [hu]; simp only [List.length_append, List.length_take, List.length_cons, List.length_drop]; omega
              have hune : u ≠ bodyE h [] := by
                rw [← HB0B.out, hu]
                intro e
                have e2 := e.trans (part8 hj)
                have e3 := List.append_cancel_left e2
                injection e3 with e3 _
                exact hyb e3.symm
              have E81 : Hid (deE (u ++ s4) = 81) := by
                show _ = _
                have z := turned_sum HMR.out (b0.take j) (b0.drop (j + 1)) (b0[j]'hj) (UInt8.ofNat y) hyb (HB0B.out.symm.trans (part8 hj))
                rw [← HB0B.out] at z
                rw [hu, HS4.out]
                exact z
              have HTO := hid (turned_other HMR.out u hune (by omega))
              obtain ⟨a1, ha1⟩ : ∃ a, a = E.take j := ⟨_, rfl⟩
              obtain ⟨d1, hd1⟩ : ∃ a, a = E.drop (j + 1) := ⟨_, rfl⟩
              obtain ⟨f1, hf1⟩ : ∃ a, a = a1 ++ [UInt8.ofNat y] := ⟨_, rfl⟩
              obtain ⟨t, ht⟩ : ∃ a, a = f1 ++ d1 := ⟨_, rfl⟩
              have hts : t = u ++ s4 := by rw [ht, hf1, ha1, hd1, HEE.out, hu]; exact put8 hj _
              have x3 := str_extract E 0 j
              have x4 := str_extract E (j + 1) E.length
              rw [List.drop_zero, ← ha1] at x3
              rw [List.take_length, ← hd1] at x4
              obtain ⟨dl, hdl⟩ : ∃ d, d = d1.length := ⟨_, rfl⟩
              have hal : a1.length = j := by rw [ha1, List.length_take]; omega
              have hdb : dl ≤ 100000 := by rw [hdl, hd1, List.length_drop]; omega
              have z1 : (str a1).size = j := by rw [str_size, hal]
              have z2 : (str d1).size = dl := by rw [str_size, hdl]
              have z3 : (str f1).size = j + 1 := by rw [str_size, hf1, List.length_append, hal]; rfl
              have p1 : str a1 ++ ⟨#[UInt8.ofNat y]⟩ = str f1 := by rw [hf1, ← str_append]; rfl
              have p2 : str f1 ++ str d1 = str t := by rw [ht, str_append]
              have n1 : ¬ 9223372036854775807 < j + 1 := by omega
              have n2 : ¬ 9223372036854775807 < j + 1 + dl := by omega
              have htl : t.length = u.length + 4 := by rw [hts, List.length_append, HS4L.out]
              have x5 := str_extract t 0 u.length
              rw [List.drop_zero, hts, List.take_left, ← hts] at x5
              have HTS := hid hts
              have HTL : Hid (t.length ≤ 100000) := by show _ ≤ _; omega
              have HUL : Hid (u.length ≤ 99996) := by show _ ≤ _; omega
              have hzt := str_size t
              rw [htl] at hzt
              clear hc hcb hy hyl hyc hu hyb hune ha1 hd1 hf1 ht hts hdl hal hdb hul hcl hml hm0 htl hb19 hEb hEl
              go_upto_region 6 with fail
              refine wp_region_held_drew (S := (fun _ => True)) (by kernel_rfl) ?_ (fun hH0 => ?_)
              · exact trivial
              refine wpAnyH_take (i := 0) (oi := { dst := some 48, op := Go.Op.move (Go.Operand.tmp 7), type := 9, pos := "law.go:66", after := #[], guard := none }) (v := ?vv1) rfl (by kernel_rfl) (by kernel_rfl) (by kernel_rfl) (fun _ _ _ h => h) (Or.inl ⟨by rfl, ?hy1⟩) (by assumption) ?rr1
              case hy1 => intro w hSw; (try dsimp only at hSw); go_simp; all_goals with_reducible rfl
              try simp only [Act.put, List.setIfInBounds_toArray, List.set_cons_zero, List.set_cons_succ]
              refine wpAnyH_take (i := 1) (oi := { dst := some 49, op := Go.Op.move (Go.Operand.tmp 1), type := 3, pos := "law.go:66", after := #[], guard := none }) (v := ?vv2) rfl (by kernel_rfl) (by kernel_rfl) (by kernel_rfl) (fun _ _ _ h => h) (Or.inl ⟨by rfl, ?hy2⟩) (by assumption) ?rr2
              case hy2 => intro w hSw; (try dsimp only at hSw); go_simp; all_goals with_reducible rfl
              try simp only [Act.put, List.setIfInBounds_toArray, List.set_cons_zero, List.set_cons_succ]
              refine wpAnyH_take (i := 2) (oi := { dst := some 50, op := Go.Op.slice 9 (Go.Operand.tmp 48) none (some (Go.Operand.tmp 49)) none, type := 9, pos := "law.go:66", after := #[{ on := 0, ground := Go.Ground.data }, { on := 1, ground := Go.Ground.data }], guard := none }) (v := ?vv3) rfl (by kernel_rfl) (by kernel_rfl) (by kernel_rfl) (fun _ _ _ h => h) (Or.inl ⟨by rfl, ?hy3⟩) (by assumption) ?rr3
              case hy3 => intro w hSw; (try dsimp only at hSw); go_simp; all_goals with_reducible rfl
              try simp only [Act.put, List.setIfInBounds_toArray, List.set_cons_zero, List.set_cons_succ]
              refine wpAnyH_take (i := 3) (oi := { dst := some 51, op := Go.Op.move (Go.Operand.tmp 7), type := 9, pos := "law.go:66", after := #[], guard := none }) (v := ?vv4) rfl (by kernel_rfl) (by kernel_rfl) (by kernel_rfl) (fun _ _ _ h => h) (Or.inl ⟨by rfl, ?hy4⟩) (by assumption) ?rr4
              case hy4 => intro w hSw; (try dsimp only at hSw); go_simp; all_goals with_reducible rfl
              try simp only [Act.put, List.setIfInBounds_toArray, List.set_cons_zero, List.set_cons_succ]
              refine wpAnyH_take (i := 4) (oi := { dst := some 52, op := Go.Op.move (Go.Operand.tmp 1), type := 3, pos := "law.go:66", after := #[], guard := none }) (v := ?vv5) rfl (by kernel_rfl) (by kernel_rfl) (by kernel_rfl) (fun _ _ _ h => h) (Or.inl ⟨by rfl, ?hy5⟩) (by assumption) ?rr5
              case hy5 => intro w hSw; (try dsimp only at hSw); go_simp; all_goals with_reducible rfl
              try simp only [Act.put, List.setIfInBounds_toArray, List.set_cons_zero, List.set_cons_succ]
              refine wpAnyH_take (i := 5) (oi := { dst := some 53, op := Go.Op.index 9 (Go.Operand.tmp 51) (Go.Operand.tmp 52), type := 5, pos := "law.go:66", after := #[{ on := 3, ground := Go.Ground.data }, { on := 4, ground := Go.Ground.data }], guard := none }) (v := ?vv6) rfl (by kernel_rfl) (by kernel_rfl) (by kernel_rfl) (fun _ _ _ h => h) (Or.inl ⟨by rfl, ?hy6⟩) (by assumption) ?rr6
              case hy6 => intro w hSw; (try dsimp only at hSw); go_simp; all_goals with_reducible rfl
              try simp only [Act.put, List.setIfInBounds_toArray, List.set_cons_zero, List.set_cons_succ]
              refine wpAnyH_take (i := 6) (oi := { dst := some 54, op := Go.Op.move (Go.Operand.tmp 2), type := 3, pos := "law.go:66", after := #[], guard := none }) (v := ?vv7) rfl (by kernel_rfl) (by kernel_rfl) (by kernel_rfl) (fun _ _ _ h => h) (Or.inl ⟨by rfl, ?hy7⟩) (by assumption) ?rr7
              case hy7 => intro w hSw; (try dsimp only at hSw); go_simp; all_goals with_reducible rfl
              try simp only [Act.put, List.setIfInBounds_toArray, List.set_cons_zero, List.set_cons_succ]
              refine wpAnyH_take (i := 7) (oi := { dst := some 55, op := Go.Op.convert 3 5 (Go.Operand.tmp 54), type := 5, pos := "law.go:66", after := #[{ on := 6, ground := Go.Ground.data }], guard := none }) (v := ?vv8) rfl (by kernel_rfl) (by kernel_rfl) (by kernel_rfl) (fun _ _ _ h => h) (Or.inl ⟨by rfl, ?hy8⟩) (by assumption) ?rr8
              case hy8 => intro w hSw; (try dsimp only at hSw); go_simp; all_goals with_reducible rfl
              try simp only [Act.put, List.setIfInBounds_toArray, List.set_cons_zero, List.set_cons_succ]
              refine wpAnyH_take (i := 8) (oi := { dst := some 56, op := Go.Op.binOp Go.BinOp.xor 5 (Go.Operand.tmp 53) (Go.Operand.tmp 55) 5, type := 5, pos := "law.go:66", after := #[{ on := 5, ground := Go.Ground.data }, { on := 7, ground := Go.Ground.data }], guard := none }) (v := ?vv9) rfl (by kernel_rfl) (by kernel_rfl) (by kernel_rfl) (fun _ _ _ h => h) (Or.inl ⟨by rfl, ?hy9⟩) (by assumption) ?rr9
              case hy9 => intro w hSw; (try dsimp only at hSw); go_simp; all_goals with_reducible rfl
              try simp only [Act.put, List.setIfInBounds_toArray, List.set_cons_zero, List.set_cons_succ]
              refine wpAnyH_take (i := 12) (oi := { dst := some 60, op := Go.Op.move (Go.Operand.tmp 7), type := 9, pos := "law.go:66", after := #[], guard := none }) (v := ?vv10) rfl (by kernel_rfl) (by kernel_rfl) (by kernel_rfl) (fun _ _ _ h => h) (Or.inl ⟨by rfl, ?hy10⟩) (by assumption) ?rr10
              case hy10 => intro w hSw; (try dsimp only at hSw); go_simp; all_goals with_reducible rfl
              try simp only [Act.put, List.setIfInBounds_toArray, List.set_cons_zero, List.set_cons_succ]
              refine wpAnyH_take (i := 13) (oi := { dst := some 61, op := Go.Op.move (Go.Operand.tmp 1), type := 3, pos := "law.go:66", after := #[], guard := none }) (v := ?vv11) rfl (by kernel_rfl) (by kernel_rfl) (by kernel_rfl) (fun _ _ _ h => h) (Or.inl ⟨by rfl, ?hy11⟩) (by assumption) ?rr11
              case hy11 => intro w hSw; (try dsimp only at hSw); go_simp; all_goals with_reducible rfl
              try simp only [Act.put, List.setIfInBounds_toArray, List.set_cons_zero, List.set_cons_succ]
              refine wpAnyH_take (i := 14) (oi := { dst := some 62, op := Go.Op.binOp Go.BinOp.add 3 (Go.Operand.tmp 61) (Go.Operand.const (Go.Value.int Go.IntKind.i64 1)) 3, type := 3, pos := "law.go:66", after := #[{ on := 13, ground := Go.Ground.data }], guard := none }) (v := ?vv12) rfl (by kernel_rfl) (by kernel_rfl) (by kernel_rfl) (fun _ _ _ h => h) (Or.inl ⟨by rfl, ?hy12⟩) (by assumption) ?rr12
              case hy12 => intro w hSw; (try dsimp only at hSw); go_simp; all_goals with_reducible rfl
              try simp only [Act.put, List.setIfInBounds_toArray, List.set_cons_zero, List.set_cons_succ]
              refine wpAnyH_take (i := 15) (oi := { dst := some 63, op := Go.Op.slice 9 (Go.Operand.tmp 60) (some (Go.Operand.tmp 62)) none none, type := 9, pos := "law.go:66", after := #[{ on := 12, ground := Go.Ground.data }, { on := 14, ground := Go.Ground.data }], guard := none }) (v := ?vv13) rfl (by kernel_rfl) (by kernel_rfl) (by kernel_rfl) (fun _ _ _ h => h) (Or.inl ⟨by rfl, ?hy13⟩) (by assumption) ?rr13
              case hy13 => intro w hSw; (try dsimp only at hSw); go_simp; all_goals with_reducible rfl
              try simp only [Act.put, List.setIfInBounds_toArray, List.set_cons_zero, List.set_cons_succ]
              refine wpAnyH_ready (rs := [9]) (by kernel_rfl) (by simp) ?_
              refine AllReadyH.cons (i := 9) (o := { dst := some 57, op := Go.Op.buildSlice 54 1 #[(0, Go.Operand.tmp 56)], type := 54, pos := "law.go:66", after := #[{ on := 8, ground := Go.Ground.data }], guard := none }) rfl (fun K hK => ?_) AllReadyH.nil
              go_simp
              refine hK.out _ _ ?_ (fun hH1 => ?_)
              · exact trivial
              clear hK K
              try simp only [Act.put, List.setIfInBounds_toArray, List.set_cons_zero, List.set_cons_succ]
              refine wpAnyH_ready (rs := [10]) (by kernel_rfl) (by simp) ?_
              refine AllReadyH.cons (i := 10) (o := { dst := some 58, op := Go.Op.convert 54 9 (Go.Operand.tmp 57), type := 9, pos := "law.go:66", after := #[{ on := 9, ground := Go.Ground.data }], guard := none }) rfl (fun K hK => ?_) AllReadyH.nil
              have hcv := conv_one8 (w4.alloc (.cells #[.int .u8 (y : Int)] 5)).drew w4.heap.size 5 y HYL.out ((Lies.new w4 5 _).drew)
              go_simp
              refine hK.out _ _ ?_ (fun hH2 => ?_)
              · exact trivial
              clear hK K
              try simp only [Act.put, List.setIfInBounds_toArray, List.set_cons_zero, List.set_cons_succ]
              refine wpAnyH_take (i := 11) (oi := { dst := some 59, op := Go.Op.binOp Go.BinOp.add 9 (Go.Operand.tmp 50) (Go.Operand.tmp 58) 9, type := 9, pos := "law.go:66", after := #[{ on := 2, ground := Go.Ground.data }, { on := 10, ground := Go.Ground.data }], guard := none }) (v := ?vv14) rfl (by kernel_rfl) (by kernel_rfl) (by kernel_rfl) (fun _ _ _ h => h) (Or.inl ⟨by rfl, ?hy14⟩) (by assumption) ?rr14
              case hy14 => intro w hSw; (try dsimp only at hSw); go_simp; all_goals with_reducible rfl
              try simp only [Act.put, List.setIfInBounds_toArray, List.set_cons_zero, List.set_cons_succ]
              refine wpAnyH_take (i := 16) (oi := { dst := some 64, op := Go.Op.binOp Go.BinOp.add 9 (Go.Operand.tmp 59) (Go.Operand.tmp 63) 9, type := 9, pos := "law.go:66", after := #[{ on := 11, ground := Go.Ground.data }, { on := 15, ground := Go.Ground.data }], guard := none }) (v := ?vv15) rfl (by kernel_rfl) (by kernel_rfl) (by kernel_rfl) (fun _ _ _ h => h) (Or.inl ⟨by rfl, ?hy15⟩) (by assumption) ?rr15
              case hy15 => intro w hSw; (try dsimp only at hSw); go_simp; all_goals with_reducible rfl
              try simp only [Act.put, List.setIfInBounds_toArray, List.set_cons_zero, List.set_cons_succ]
              refine wpAnyH_take (i := 17) (oi := { dst := some 8, op := Go.Op.assign (Go.Operand.tmp 64), type := 9, pos := "law.go:66", after := #[{ on := 16, ground := Go.Ground.data }, { on := 0, ground := Go.Ground.phase }, { on := 1, ground := Go.Ground.phase }, { on := 2, ground := Go.Ground.phase }, { on := 3, ground := Go.Ground.phase }, { on := 4, ground := Go.Ground.phase }, { on := 5, ground := Go.Ground.phase }, { on := 6, ground := Go.Ground.phase }, { on := 7, ground := Go.Ground.phase }, { on := 8, ground := Go.Ground.phase }, { on := 9, ground := Go.Ground.phase }, { on := 10, ground := Go.Ground.phase }, { on := 11, ground := Go.Ground.phase }, { on := 12, ground := Go.Ground.phase }, { on := 13, ground := Go.Ground.phase }, { on := 14, ground := Go.Ground.phase }, { on := 15, ground := Go.Ground.phase }, { on := 16, ground := Go.Ground.phase }], guard := none }) (v := ?vv16) rfl (by kernel_rfl) (by kernel_rfl) (by kernel_rfl) (fun _ _ _ h => h) (Or.inl ⟨by rfl, ?hy16⟩) (by assumption) ?rr16
              case hy16 => intro w hSw; (try dsimp only at hSw); go_simp; all_goals with_reducible rfl
              try simp only [Act.put, List.setIfInBounds_toArray, List.set_cons_zero, List.set_cons_succ]
              refine wpAnyH_done (by kernel_rfl) ?_ _
              have hal := (below_alloc w4 (.cells #[.int .u8 (y : Int)] 5)).drew
              have X5 := hid (X4.out.later hal)
              have O5 := hid (O4.out.below hal)
              have HB5 := hid (HB4.out.trans (hal.mono HB4.out.size))
              clear hal hH0 hH1 hH2 hcv ewr ewr2 t0 t1 t2 t3 t4 t5 t6 x3 x4 z1 z2 z3 p1 p2 n1 n2
              clear x0 x1 x2
              have x0 := X5.out.cell 0
              have x1 := X5.out.cell 1
              have x2 := X5.out.cell 2
              simp only [List.getElem?_toArray, List.getElem?_cons_zero, List.getElem?_cons_succ] at x0 x1 x2
              go_wp2_with fail
              refine (dec_zero8 ((congrArg deE HTS.out).trans E81.out) (by decide) HTL.out _).mono ?_
              rintro e w6 ⟨A6, c6, P6, d6, rfl, hb⟩
              have HAL := hid (below_alloc w6 (.cells #[.slice A6 0 c6, .int .i64 0, .int .i64 0] 24))
              have HB6 := hid ((HB5.out.trans (hb.mono HB5.out.size)).trans (HAL.out.mono (Nat.le_trans HB5.out.size hb.size)))
              have X6 := hid ((X5.out.later hb).later HAL.out)
              have O6 := hid ((O5.out.below hb).below HAL.out)
              have Z6 := hid (Lies.new w6 24 #[.slice A6 0 c6, .int .i64 0, .int .i64 0])
              clear x0 x1 x2
              clear hb
              clear HAL
              have x0 := X6.out.cell 0
              have x1 := X6.out.cell 1
              have x2 := X6.out.cell 2
              have z0 := Z6.out.cell 0
              have z1 := Z6.out.cell 1
              have z2 := Z6.out.cell 2
              simp only [List.getElem?_toArray, List.getElem?_cons_zero, List.getElem?_cons_succ] at x0 x1 x2 z0 z1 z2
              clear x0 x1 x2 z0 z1 z2
              have x0 := X6.out.cell 0
              have x1 := X6.out.cell 1
              have x2 := X6.out.cell 2
              simp only [List.getElem?_toArray, List.getElem?_cons_zero, List.getElem?_cons_succ] at x0 x1 x2
              have e1 : IntKind.i64.wrap (((u.length + 4 : Nat) : Int) - 4) = (u.length : Int) := by
                rw [show ((u.length + 4 : Nat) : Int) - 4 = (u.length : Int) by omega]
                exact IntWalk.i64_in _ ⟨by omega, by have := HUL.out; omega⟩
              have e1b : IntKind.i64.wrap ((u.length : Int) + 4 - 4) = (u.length : Int) := by
                rw [show (u.length : Int) + 4 - 4 = (u.length : Int) by omega]
                exact IntWalk.i64_in _ ⟨by omega, by have := HUL.out; omega⟩
              have e2 : wrap64 (((u.length + 4 : Nat) : Int) - 4) = (u.length : Int) := by
                rw [show ((u.length + 4 : Nat) : Int) - 4 = (u.length : Int) by omega]
                exact wrap64_fit (by omega) (by have := HUL.out; omega)
              have e3 : (u.length : Int) ≤ ((u.length + 4 : Nat) : Int) := by omega
              have e3b : (u.length : Int) ≤ (u.length : Int) + 4 := by omega
              have e4 : u.length ≤ u.length + 4 := by omega
              have HM1 := hid (moI_str u)
              have HM2 := hid (boI_su u)
              obtain ⟨v, hv⟩ : ∃ v, v = u ++ n4 (su8 u) := ⟨_, rfl⟩
              obtain ⟨mm, hmm⟩ : ∃ m, m = (su8 u : Int) := ⟨_, rfl⟩
              obtain ⟨s5, hs5⟩ : ∃ b, b = n4 mm := ⟨_, rfl⟩
              rw [← hmm] at HM1 HM2 hv
              rw [← hs5] at HM2 hv
              have HV := hid hv
              have hz5 : (str s5).size = 4 := by rw [str_size, hs5]; exact n4_len _
              have hzu := str_size u
              have hp := str_append u s5
              rw [← hv] at hp
              have hn := HUL.out
              have n3 : ¬ 9223372036854775807 < u.length + 4 := by omega
              have HTV : Hid (deE v = 82 ∨ (deE v = 0 ∧ ¬ (deH v = h ∧ deL v = []))) := by
                show _ ∨ _
                rw [hv, hs5, hmm]; exact HTO.out
              have HVL : Hid (v.length ≤ 100000) := by
                show _ ≤ _
                rw [hv, List.length_append, hs5, n4_len]; omega
              have HUZ : Hid ((str u).size ≤ 9223372036854775807) := by show _ ≤ _; omega
              clear hv hmm hs5 hn
              go_wp2_with fail
              refine (rof_any7 (str u) HUZ.out _).mono ?_
              rintro e wx ⟨rfl, rfl⟩
              rw [HM1.out]
              go_wp2_with fail
              refine (rbytes_any mm _).mono ?_
              rintro e w7 ⟨rfl, hb⟩
              rw [HM2.out]
              have HB7 := hid (HB6.out.trans (hb.mono HB6.out.size))
              have X7 := hid (X6.out.later hb)
              have O7 := hid (O6.out.below hb)
              clear x0 x1 x2
              clear hb
              have x0 := X7.out.cell 0
              have x1 := X7.out.cell 1
              have x2 := X7.out.cell 2
              simp only [List.getElem?_toArray, List.getElem?_cons_zero, List.getElem?_cons_succ] at x0 x1 x2
              rcases HTV.out with h82 | ⟨h0, hno⟩
              · have H82 := hid h82
                clear h82
                go_wp2_with fail
                refine (dec_zero8 H82.out (by decide) HVL.out _).mono ?_
                rintro e w8 ⟨A8, c8, P8, d8, rfl, hb⟩
                have HAL := hid (below_alloc w8 (.cells #[.slice A8 0 c8, .int .i64 0, .int .i64 0] 24))
                have HB8 := hid ((HB7.out.trans (hb.mono HB7.out.size)).trans (HAL.out.mono (Nat.le_trans HB7.out.size hb.size)))
                have X8 := hid ((X7.out.later hb).later HAL.out)
                have O8 := hid ((O7.out.below hb).below HAL.out)
                have Z8 := hid (Lies.new w8 24 #[.slice A8 0 c8, .int .i64 0, .int .i64 0])
                clear x0 x1 x2
                clear hb
                clear HAL
                have x0 := X8.out.cell 0
                have x1 := X8.out.cell 1
                have x2 := X8.out.cell 2
                have z0 := Z8.out.cell 0
                have z1 := Z8.out.cell 1
                have z2 := Z8.out.cell 2
                simp only [List.getElem?_toArray, List.getElem?_cons_zero, List.getElem?_cons_succ] at x0 x1 x2 z0 z1 z2
                go_wp2_with fail
                go_ret
                exact ⟨rfl, HB8.out⟩
              · obtain ⟨-, e5⟩ := dec_enc h0
                obtain ⟨k, hk⟩ : ∃ k, k = deH v := ⟨_, rfl⟩
                obtain ⟨L, hL⟩ : ∃ L, L = deL v := ⟨_, rfl⟩
                rw [← hk, ← hL] at e5 hno
                obtain ⟨kf, kl⟩ := may_fit8 e5
                have HD := hid (And.intro h0 (And.intro hk.symm hL.symm))
                have HKF := hid kf
                have HNO := hid hno
                clear h0 hno hk hL e5 kf
                go_wp2_with fail
                refine (dec_full8 (k := k) (L := L) HD.out.1 HD.out.2.1 HD.out.2.2 HVL.out _).mono ?_
                rintro e w8 ⟨A8, c8, P8, d8, rfl, ho, hi, hb⟩
                have HAL := hid (below_alloc w8 (.cells #[Value.slice A8 k.objs.length c8, Value.int .i64 k.cap, Value.int .i64 k.last] 24))
                have HB8 := hid ((HB7.out.trans (hb.mono HB7.out.size)).trans (HAL.out.mono (Nat.le_trans HB7.out.size hb.size)))
                have X8 := hid ((X7.out.later hb).later HAL.out)
                have O8 := hid ((O7.out.below hb).below HAL.out)
                have G8 := hid (Lies.new w8 24 #[Value.slice A8 k.objs.length c8, Value.int .i64 k.cap, Value.int .i64 k.last])
                have OK8 := hid (ho.below HAL.out)
                have LK8 := hid (hi.below HAL.out)
                clear x0 x1 x2
                clear hb
                clear ho hi HAL
                have x0 := X8.out.cell 0
                have x1 := X8.out.cell 1
                have x2 := X8.out.cell 2
                have g0 := G8.out.cell 0
                have g1 := G8.out.cell 1
                have g2 := G8.out.cell 2
                simp only [List.getElem?_toArray, List.getElem?_cons_zero, List.getElem?_cons_succ] at x0 x1 x2 g0 g1 g2
                by_cases hL0 : 0 < L.length
                · have hLI : (0 : Int) < (L.length : Int) := by omega
                  go_wp2_with fail
                  go_ret
                  exact ⟨rfl, HB8.out⟩
                · have hLI : ¬ (0 : Int) < (L.length : Int) := by omega
                  have HNK : Hid (¬ k = h) := fun e => HNO.out ⟨e, List.length_eq_zero_iff.1 (by omega)⟩
                  go_wp2_with fail
                  refine (same_all k h A8 A c8 c _ OK8.out O8.out HKF.out HF.out).mono ?_
                  rintro e w9 ⟨⟨xx, rfl, hx⟩, hb⟩
                  obtain rfl : xx = false := by cases xx; rfl; exact absurd (hx.1 rfl) HNK.out
                  have HB9 := hid (HB8.out.trans (hb.mono HB8.out.size))
                  have X9 := hid (X8.out.later hb)
                  have G9 := hid (G8.out.later hb)
                  have O9 := hid (O8.out.below hb)
                  have OK9 := hid (OK8.out.below hb)
                  have LK9 := hid (LK8.out.below hb)
                  clear x0 x1 x2 g0 g1 g2
                  clear hb
                  go_wp2_with fail
                  go_ret
                  exact ⟨rfl, HB9.out⟩
end Go.Proofs.Ythggafdfglojaaa
