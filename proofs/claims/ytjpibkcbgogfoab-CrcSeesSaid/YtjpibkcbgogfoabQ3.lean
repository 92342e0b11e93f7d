/- CrcSees walked: whatever text, place and mask, it answers true. -/
import Derived.Test.YtjpibkcbgogfoabQZ
namespace Go.Proofs.Ytjpibkcbgogfoab
open Go.RowKit
set_option maxRecDepth 100000
theorem conv_one (W : World) (g t y : Nat) (hy : y < 256) (hc : Lies W g t #[.int .u8 (y : Int)]) : (convert 27 9 (.slice (some ⟨g, 0, none⟩) 1 1)).run Try.prog W = .ok (.string ⟨#[UInt8.ofNat y]⟩) W := by
  have := run_convert_bytes_back (P := Try.prog) W 27 9 5 ⟨g, 0, none⟩ 1 [UInt8.ofNat y] Try.underlying27 Try.underlying5 Try.underlying9 (fun j hj => by
    obtain rfl : j = 0 := by simp at hj; omega
    rw [Addr.add_lit, Nat.zero_add, hc.cell]
    have hxx : (UInt8.ofNat y).toNat = y := by rw [UInt8.toNat_ofNat']; omega
    simp [hxx])
  simpa using this
theorem xor_other {c m : Nat} (h : m ≠ 0) : c ^^^ m ≠ c := fun e => h (by
  have e2 := congrArg (c ^^^ ·) e
  simpa only [← Nat.xor_assoc, Nat.xor_self, Nat.zero_xor] using e2)
theorem byL_single (y : Nat) (hy : y < 256) : byL ⟨#[UInt8.ofNat y]⟩ = [y] := by
  have hxx : (UInt8.ofNat y).toNat = y := by rw [UInt8.toNat_ofNat']; omega
  simp [byL, hxx]
theorem byL_put (s : ByteArray) (k y : Nat) (_hk : k < s.size) (hy : y < 256) : byL (s.extract 0 k ++ ⟨#[UInt8.ofNat y]⟩ ++ s.extract (k + 1) s.size) = (byL s).take k ++ y :: (byL s).drop (k + 1) := by
  rw [byL_append, byL_append, byL_extract, byL_extract, byL_single y hy, List.drop_zero, List.append_assoc]
  have : (byL s).take s.size = byL s := List.take_of_length_le (by rw [byL_len]; omega)
  rw [this]; rfl
theorem byL_split (s : ByteArray) (k : Nat) (hk : k < s.size) : byL s = (byL s).take k ++ (s[k]).toNat :: (byL s).drop (k + 1) := by
  have h := byL_step s k hk
  conv => lhs; rw [← List.take_append_drop (k + 1) (byL s), h]
  simp
theorem put_size (s : ByteArray) (k y : Nat) (hk : k < s.size) : (s.extract 0 k ++ ⟨#[UInt8.ofNat y]⟩ ++ s.extract (k + 1) s.size).size = s.size := by
  rw [ByteArray.size_append, ByteArray.size_append, ByteArray.size_extract, ByteArray.size_extract]
  show min k s.size - 0 + 1 + (min s.size s.size - (k + 1)) = s.size
  omega
theorem b4_size (n : Nat) : (b4B n).size = 4 := rfl
theorem drop_lt {l : List Nat} (h : ∀ c ∈ l, c < 256) (k : Nat) : ∀ c ∈ l.drop k, c < 256 := fun c hc => h c (List.mem_of_mem_drop hc)
theorem sum_other (s : ByteArray) (k y : Nat) (hk : k < s.size) (hy : y < 256) (hne : y ≠ (s[k]).toNat) : crM 0 (byL s) ≠ crM 0 (byL (s.extract 0 k ++ ⟨#[UInt8.ofNat y]⟩ ++ s.extract (k + 1) s.size)) := by
  intro e
  have e : crM 0 ((byL s).take k ++ (s[k]).toNat :: (byL s).drop (k + 1)) = crM 0 ((byL s).take k ++ y :: (byL s).drop (k + 1)) := by
    rw [← byL_split s k hk, ← byL_put s k y hk hy]; exact e
  unfold crM at e
  have hlt := byL_lt s
  rw [Nat.sub_zero] at e
  have hc : (s[k]).toNat < 256 := (s[k]).toNat_lt
  have hall : ∀ z, z < 256 → ∀ c ∈ (byL s).take k ++ z :: (byL s).drop (k + 1), c < 256 := by
    intro z hz c hc
    rcases List.mem_append.1 hc with h | h
    · exact take_lt hlt k c h
    · rcases List.mem_cons.1 h with rfl | h
      · exact hz
      · exact drop_lt hlt (k + 1) c h
  have h1 : cu mx ((byL s).take k ++ (s[k]).toNat :: (byL s).drop (k + 1)) < 4294967296 := cu_lt mx_lt (hall _ hc)
  have h2 : cu mx ((byL s).take k ++ y :: (byL s).drop (k + 1)) < 4294967296 := cu_lt mx_lt (hall _ hy)
  have e1 := congrArg (fun x => mx - x) e
  simp only [turn_turn h1, turn_turn h2] at e1
  exact hne (cu_sees mx_lt (take_lt hlt k) (drop_lt hlt (k + 1)) hc hy e1).symm
theorem with_sum (s : ByteArray) : moI 0 (s ++ b4B (crM 0 (byL s))) = moI 0 (b4B 0) := by
  have h : crM 0 (byL s) < 4294967296 := crM_lt (byL_lt s)
  rw [show (0 : Int) = ((0 : Nat) : Int) from rfl, moI_yes (by decide), moI_yes (by decide), byL_append, byL_b4 h, byL_b4 (by decide), one_sum _ (byL_lt s)]
set_option maxHeartbeats 1500000 in
theorem sees7_any (s : ByteArray) (a m : Int) (w : World) (hl : s.size ≤ 9223372036854775807) : Calls Try.prog 5 #[.string s, .int .i64 a, .int .i64 m] w fun e w' => e = .returned (.bool true) ∧ Below w.heap.size w w' := by
  have HB0 := hid (Below.refl w.heap.size w)
  by_cases q0 : (s.size : Int) < 1
  · go_enter Try.func5, Try.ntmps5
    go_wp2_with fail
    refine (fixed7_any _).mono ?_
    rintro e w1 ⟨rfl, hb⟩
    have HB1 := hid (HB0.out.trans (hb.mono HB0.out.size))
    clear hb
    go_wp2_with fail
    refine (fixed7_any _).mono ?_
    rintro e w2 ⟨rfl, hb⟩
    have HB2 := hid (HB1.out.trans (hb.mono HB1.out.size))
    clear hb
    go_wp2_with fail
    go_ret
    exact ⟨rfl, HB2.out⟩
  · by_cases q1 : (1000 : Int) < s.size
    · go_enter Try.func5, Try.ntmps5
      go_wp2_with fail
      refine (fixed7_any _).mono ?_
      rintro e w1 ⟨rfl, hb⟩
      have HB1 := hid (HB0.out.trans (hb.mono HB0.out.size))
      clear hb
      go_wp2_with fail
      refine (fixed7_any _).mono ?_
      rintro e w2 ⟨rfl, hb⟩
      have HB2 := hid (HB1.out.trans (hb.mono HB1.out.size))
      clear hb
      go_wp2_with fail
      go_ret
      exact ⟨rfl, HB2.out⟩
    · by_cases q2 : a < 0
      · go_enter Try.func5, Try.ntmps5
        go_wp2_with fail
        refine (fixed7_any _).mono ?_
        rintro e w1 ⟨rfl, hb⟩
        have HB1 := hid (HB0.out.trans (hb.mono HB0.out.size))
        clear hb
        go_wp2_with fail
        refine (fixed7_any _).mono ?_
        rintro e w2 ⟨rfl, hb⟩
        have HB2 := hid (HB1.out.trans (hb.mono HB1.out.size))
        clear hb
        go_wp2_with fail
        go_ret
        exact ⟨rfl, HB2.out⟩
      · by_cases q3 : (s.size : Int) ≤ a
        · go_enter Try.func5, Try.ntmps5
          go_wp2_with fail
          refine (fixed7_any _).mono ?_
          rintro e w1 ⟨rfl, hb⟩
          have HB1 := hid (HB0.out.trans (hb.mono HB0.out.size))
          clear hb
          go_wp2_with fail
          refine (fixed7_any _).mono ?_
          rintro e w2 ⟨rfl, hb⟩
          have HB2 := hid (HB1.out.trans (hb.mono HB1.out.size))
          clear hb
          go_wp2_with fail
          go_ret
          exact ⟨rfl, HB2.out⟩
        · by_cases q4 : m < 1
          · go_enter Try.func5, Try.ntmps5
            go_wp2_with fail
            refine (fixed7_any _).mono ?_
            rintro e w1 ⟨rfl, hb⟩
            have HB1 := hid (HB0.out.trans (hb.mono HB0.out.size))
            clear hb
            go_wp2_with fail
            refine (fixed7_any _).mono ?_
            rintro e w2 ⟨rfl, hb⟩
            have HB2 := hid (HB1.out.trans (hb.mono HB1.out.size))
            clear hb
            go_wp2_with fail
            go_ret
            exact ⟨rfl, HB2.out⟩
          · by_cases q5 : 255 < m
            · go_enter Try.func5, Try.ntmps5
              go_wp2_with fail
              refine (fixed7_any _).mono ?_
              rintro e w1 ⟨rfl, hb⟩
              have HB1 := hid (HB0.out.trans (hb.mono HB0.out.size))
              clear hb
              go_wp2_with fail
              refine (fixed7_any _).mono ?_
              rintro e w2 ⟨rfl, hb⟩
              have HB2 := hid (HB1.out.trans (hb.mono HB1.out.size))
              clear hb
              go_wp2_with fail
              go_ret
              exact ⟨rfl, HB2.out⟩
            · obtain ⟨k, rfl⟩ : ∃ k : Nat, a = k := ⟨a.toNat, by omega⟩
              obtain ⟨j, rfl⟩ : ∃ j : Nat, m = j := ⟨m.toNat, by omega⟩
              have hk : k < s.size := by omega
              have hj : j < 256 := by omega
              have hj0 : j ≠ 0 := by omega
              have hks : k ≤ s.size := by omega
              obtain ⟨c, hc⟩ : ∃ c, c = (s[k]'hk).toNat := ⟨_, rfl⟩
              have hcl : c < 256 := by rw [hc]; exact (s[k]'hk).toNat_lt
              obtain ⟨y, hy⟩ : ∃ y, y = c ^^^ j := ⟨_, rfl⟩
              have hyl : y < 256 := by rw [hy]; exact Nat.xor_lt_two_pow (n := 8) hcl hj
              have hyc : y ≠ (s[k]'hk).toNat := by rw [hy, ← hc]; exact xor_other hj0
              have HYL := hid hyl
              have b0 : ((s[k]'hk).toNat : Int) = (c : Int) := by rw [hc]
              have b1 : IntKind.u8.wrap (j : Int) = j := IntWalk.u8_in _ ⟨by omega, by omega⟩
              have b2 : bits .xor .u8 (c : Int) (j : Int) = (y : Int) := by rw [hy]; exact u8_xor_nat c j hcl hj
              have b3 : IntKind.i64.wrap ((k : Int) + 1) = (k : Int) + 1 := IntWalk.i64_in _ ⟨by omega, by omega⟩
              have b4 : (0 : Int) ≤ (k : Int) + 1 := by omega
              have b5 : (k : Int) + 1 ≤ (s.size : Int) := by omega
              have hmin : min k s.size = k := by omega
              have hsz := put_size s k y hk
              have n1 : ¬ 9223372036854775807 < k + 1 := by omega
              have n2 : ¬ 9223372036854775807 < k + 1 + (s.size - (k + 1)) := by omega
              obtain ⟨t, ht⟩ : ∃ t, t = s.extract 0 k ++ ⟨#[UInt8.ofNat y]⟩ ++ s.extract (k + 1) s.size := ⟨_, rfl⟩
              have HT := hid ht
              have hts : t.size = s.size := by rw [ht]; exact hsz
              have HNE : Hid (¬ crM 0 (byL s) = crM 0 (byL t)) := by show ¬ _; rw [ht]; exact sum_other s k y hk hyl hyc
              clear hc hy hyc ht hsz
              have HW1 : Hid (moI 0 (s ++ b4B (crM 0 (byL s))) = moI 0 (b4B 0)) := with_sum s
              have HW2 : Hid (moI 0 (t ++ b4B (crM 0 (byL t))) = moI 0 (b4B 0)) := with_sum t
              obtain ⟨vs, hvs⟩ : ∃ x, x = crM 0 (byL s) := ⟨_, rfl⟩
              obtain ⟨vt, hvt⟩ : ∃ x, x = crM 0 (byL t) := ⟨_, rfl⟩
              have HV1 : Hid (moI 0 s = (vs : Int)) := by show _ = _; rw [show (0 : Int) = ((0 : Nat) : Int) from rfl, moI_yes (by decide), hvs]
              have HV2 : Hid (moI 0 t = (vt : Int)) := by show _ = _; rw [show (0 : Int) = ((0 : Nat) : Int) from rfl, moI_yes (by decide), hvt]
              have hvsl : vs < 4294967296 := by rw [hvs]; exact crM_lt (byL_lt s)
              have hvtl : vt < 4294967296 := by rw [hvt]; exact crM_lt (byL_lt t)
              rw [← hvs] at HW1
              rw [← hvt] at HW2
              rw [← hvs, ← hvt] at HNE
              obtain ⟨bs, hbs⟩ : ∃ x, x = b4B vs := ⟨_, rfl⟩
              obtain ⟨bt, hbt⟩ : ∃ x, x = b4B vt := ⟨_, rfl⟩
              obtain ⟨bz, hbz⟩ : ∃ x, x = b4B 0 := ⟨_, rfl⟩
              obtain ⟨z, hz⟩ : ∃ x, x = moI 0 bz := ⟨_, rfl⟩
              have HO1 : Hid (boI (vs : Int) = bs) := by show _ = _; rw [hbs]; exact boI_yes hvsl
              have HO2 : Hid (boI (vt : Int) = bt) := by show _ = _; rw [hbt]; exact boI_yes hvtl
              have HO3 : Hid (boI 0 = bz) := by show _ = _; rw [hbz]; exact boI_yes (n := 0) (by decide)
              have s1 : bs.size = 4 := by rw [hbs]; exact b4_size _
              have s2 : bt.size = 4 := by rw [hbt]; exact b4_size _
              have s3 : bz.size = 4 := by rw [hbz]; exact b4_size _
              have HZ := hid hz
              rw [← hbs, ← hbz, ← hz] at HW1
              rw [← hbt, ← hbz, ← hz] at HW2
              have m1 : ¬ 9223372036854775807 < s.size + 4 := by omega
              have m2 : ¬ 9223372036854775807 < t.size + 4 := by omega
              have g1 : ((vs : Int) == (vt : Int)) = false := beq_eq_false_iff_ne.2 (fun e => HNE.out (by omega))
              have g2 : ¬ (vs : Int) = (vt : Int) := fun e => HNE.out (by omega)
              have g3 : ¬ vs = vt := HNE.out
              clear hvs hvt hbs hbt hbz hz hvsl hvtl
              go_enter Try.func5, Try.ntmps5
              go_wp2_with fail
              refine (fixed7_any _).mono ?_
              rintro e w1 ⟨rfl, hb⟩
              have HB1 := hid (HB0.out.trans (hb.mono HB0.out.size))
              clear hb
              go_upto_region 3 with fail
              refine wp_region_held_drew (S := (fun _ => True)) (by kernel_rfl) ?_ (fun hH0 => ?_)
              · exact trivial
              refine wpAnyH_take (i := 0) (oi := { dst := some 39, op := Go.Op.move (Go.Operand.tmp 0), type := 9, pos := "law.go:43", after := #[], guard := none }) (v := ?vv1) rfl (by kernel_rfl) (by kernel_rfl) (by kernel_rfl) (fun _ _ _ h => h) (Or.inl ⟨by rfl, ?hy1⟩) (by assumption) ?rr1
              case hy1 => intro w hSw; (try dsimp only at hSw); go_simp; all_goals with_reducible rfl
              try simp only [Act.put, List.setIfInBounds_toArray, List.set_cons_zero, List.set_cons_succ]
              refine wpAnyH_take (i := 1) (oi := { dst := some 40, op := Go.Op.move (Go.Operand.tmp 1), type := 3, pos := "law.go:43", after := #[], guard := none }) (v := ?vv2) rfl (by kernel_rfl) (by kernel_rfl) (by kernel_rfl) (fun _ _ _ h => h) (Or.inl ⟨by rfl, ?hy2⟩) (by assumption) ?rr2
              case hy2 => intro w hSw; (try dsimp only at hSw); go_simp; all_goals with_reducible rfl
              try simp only [Act.put, List.setIfInBounds_toArray, List.set_cons_zero, List.set_cons_succ]
              refine wpAnyH_take (i := 2) (oi := { dst := some 41, op := Go.Op.slice 9 (Go.Operand.tmp 39) none (some (Go.Operand.tmp 40)) none, type := 9, pos := "law.go:43", after := #[{ on := 0, ground := Go.Ground.data }, { on := 1, ground := Go.Ground.data }], guard := none }) (v := ?vv3) rfl (by kernel_rfl) (by kernel_rfl) (by kernel_rfl) (fun _ _ _ h => h) (Or.inl ⟨by rfl, ?hy3⟩) (by assumption) ?rr3
              case hy3 => intro w hSw; (try dsimp only at hSw); go_simp; all_goals with_reducible rfl
              try simp only [Act.put, List.setIfInBounds_toArray, List.set_cons_zero, List.set_cons_succ]
              refine wpAnyH_take (i := 3) (oi := { dst := some 42, op := Go.Op.move (Go.Operand.tmp 0), type := 9, pos := "law.go:43", after := #[], guard := none }) (v := ?vv4) rfl (by kernel_rfl) (by kernel_rfl) (by kernel_rfl) (fun _ _ _ h => h) (Or.inl ⟨by rfl, ?hy4⟩) (by assumption) ?rr4
              case hy4 => intro w hSw; (try dsimp only at hSw); go_simp; all_goals with_reducible rfl
              try simp only [Act.put, List.setIfInBounds_toArray, List.set_cons_zero, List.set_cons_succ]
              refine wpAnyH_take (i := 4) (oi := { dst := some 43, op := Go.Op.move (Go.Operand.tmp 1), type := 3, pos := "law.go:43", after := #[], guard := none }) (v := ?vv5) rfl (by kernel_rfl) (by kernel_rfl) (by kernel_rfl) (fun _ _ _ h => h) (Or.inl ⟨by rfl, ?hy5⟩) (by assumption) ?rr5
              case hy5 => intro w hSw; (try dsimp only at hSw); go_simp; all_goals with_reducible rfl
              try simp only [Act.put, List.setIfInBounds_toArray, List.set_cons_zero, List.set_cons_succ]
              refine wpAnyH_take (i := 5) (oi := { dst := some 44, op := Go.Op.index 9 (Go.Operand.tmp 42) (Go.Operand.tmp 43), type := 5, pos := "law.go:43", after := #[{ on := 3, ground := Go.Ground.data }, { on := 4, ground := Go.Ground.data }], guard := none }) (v := ?vv6) rfl (by kernel_rfl) (by kernel_rfl) (by kernel_rfl) (fun _ _ _ h => h) (Or.inl ⟨by rfl, ?hy6⟩) (by assumption) ?rr6
              case hy6 => intro w hSw; (try dsimp only at hSw); go_simp; all_goals with_reducible rfl
              try simp only [Act.put, List.setIfInBounds_toArray, List.set_cons_zero, List.set_cons_succ]
              refine wpAnyH_take (i := 6) (oi := { dst := some 45, op := Go.Op.move (Go.Operand.tmp 2), type := 3, pos := "law.go:43", after := #[], guard := none }) (v := ?vv7) rfl (by kernel_rfl) (by kernel_rfl) (by kernel_rfl) (fun _ _ _ h => h) (Or.inl ⟨by rfl, ?hy7⟩) (by assumption) ?rr7
              case hy7 => intro w hSw; (try dsimp only at hSw); go_simp; all_goals with_reducible rfl
              try simp only [Act.put, List.setIfInBounds_toArray, List.set_cons_zero, List.set_cons_succ]
              refine wpAnyH_take (i := 7) (oi := { dst := some 46, op := Go.Op.convert 3 5 (Go.Operand.tmp 45), type := 5, pos := "law.go:43", after := #[{ on := 6, ground := Go.Ground.data }], guard := none }) (v := ?vv8) rfl (by kernel_rfl) (by kernel_rfl) (by kernel_rfl) (fun _ _ _ h => h) (Or.inl ⟨by rfl, ?hy8⟩) (by assumption) ?rr8
              case hy8 => intro w hSw; (try dsimp only at hSw); go_simp; all_goals with_reducible rfl
              try simp only [Act.put, List.setIfInBounds_toArray, List.set_cons_zero, List.set_cons_succ]
              refine wpAnyH_take (i := 8) (oi := { dst := some 47, op := Go.Op.binOp Go.BinOp.xor 5 (Go.Operand.tmp 44) (Go.Operand.tmp 46) 5, type := 5, pos := "law.go:43", after := #[{ on := 5, ground := Go.Ground.data }, { on := 7, ground := Go.Ground.data }], guard := none }) (v := ?vv9) rfl (by kernel_rfl) (by kernel_rfl) (by kernel_rfl) (fun _ _ _ h => h) (Or.inl ⟨by rfl, ?hy9⟩) (by assumption) ?rr9
              case hy9 => intro w hSw; (try dsimp only at hSw); go_simp; all_goals with_reducible rfl
              try simp only [Act.put, List.setIfInBounds_toArray, List.set_cons_zero, List.set_cons_succ]
              refine wpAnyH_take (i := 12) (oi := { dst := some 51, op := Go.Op.move (Go.Operand.tmp 0), type := 9, pos := "law.go:43", after := #[], guard := none }) (v := ?vv10) rfl (by kernel_rfl) (by kernel_rfl) (by kernel_rfl) (fun _ _ _ h => h) (Or.inl ⟨by rfl, ?hy10⟩) (by assumption) ?rr10
              case hy10 => intro w hSw; (try dsimp only at hSw); go_simp; all_goals with_reducible rfl
              try simp only [Act.put, List.setIfInBounds_toArray, List.set_cons_zero, List.set_cons_succ]
              refine wpAnyH_take (i := 13) (oi := { dst := some 52, op := Go.Op.move (Go.Operand.tmp 1), type := 3, pos := "law.go:43", after := #[], guard := none }) (v := ?vv11) rfl (by kernel_rfl) (by kernel_rfl) (by kernel_rfl) (fun _ _ _ h => h) (Or.inl ⟨by rfl, ?hy11⟩) (by assumption) ?rr11
              case hy11 => intro w hSw; (try dsimp only at hSw); go_simp; all_goals with_reducible rfl
              try simp only [Act.put, List.setIfInBounds_toArray, List.set_cons_zero, List.set_cons_succ]
              refine wpAnyH_take (i := 14) (oi := { dst := some 53, op := Go.Op.binOp Go.BinOp.add 3 (Go.Operand.tmp 52) (Go.Operand.const (Go.Value.int Go.IntKind.i64 1)) 3, type := 3, pos := "law.go:43", after := #[{ on := 13, ground := Go.Ground.data }], guard := none }) (v := ?vv12) rfl (by kernel_rfl) (by kernel_rfl) (by kernel_rfl) (fun _ _ _ h => h) (Or.inl ⟨by rfl, ?hy12⟩) (by assumption) ?rr12
              case hy12 => intro w hSw; (try dsimp only at hSw); go_simp; all_goals with_reducible rfl
              try simp only [Act.put, List.setIfInBounds_toArray, List.set_cons_zero, List.set_cons_succ]
              refine wpAnyH_take (i := 15) (oi := { dst := some 54, op := Go.Op.slice 9 (Go.Operand.tmp 51) (some (Go.Operand.tmp 53)) none none, type := 9, pos := "law.go:43", after := #[{ on := 12, ground := Go.Ground.data }, { on := 14, ground := Go.Ground.data }], guard := none }) (v := ?vv13) rfl (by kernel_rfl) (by kernel_rfl) (by kernel_rfl) (fun _ _ _ h => h) (Or.inl ⟨by rfl, ?hy13⟩) (by assumption) ?rr13
              case hy13 => intro w hSw; (try dsimp only at hSw); go_simp; all_goals with_reducible rfl
              try simp only [Act.put, List.setIfInBounds_toArray, List.set_cons_zero, List.set_cons_succ]
              refine wpAnyH_ready (rs := [9]) (by kernel_rfl) (by simp) ?_
              refine AllReadyH.cons (i := 9) (o := { dst := some 48, op := Go.Op.buildSlice 27 1 #[(0, Go.Operand.tmp 47)], type := 27, pos := "law.go:43", after := #[{ on := 8, ground := Go.Ground.data }], guard := none }) rfl (fun K hK => ?_) AllReadyH.nil
              go_simp
              refine hK.out _ _ ?_ (fun hH1 => ?_)
              · exact trivial
              clear hK K
              try simp only [Act.put, List.setIfInBounds_toArray, List.set_cons_zero, List.set_cons_succ]
              refine wpAnyH_ready (rs := [10]) (by kernel_rfl) (by simp) ?_
              refine AllReadyH.cons (i := 10) (o := { dst := some 49, op := Go.Op.convert 27 9 (Go.Operand.tmp 48), type := 9, pos := "law.go:43", after := #[{ on := 9, ground := Go.Ground.data }], guard := none }) rfl (fun K hK => ?_) AllReadyH.nil
              have hcv := conv_one (w1.alloc (.cells #[.int .u8 (y : Int)] 5)).drew w1.heap.size 5 y HYL.out ((Lies.new w1 5 _).drew)
              go_simp
              refine hK.out _ _ ?_ (fun hH2 => ?_)
              · exact trivial
              clear hK K
              try simp only [Act.put, List.setIfInBounds_toArray, List.set_cons_zero, List.set_cons_succ]
              refine wpAnyH_take (i := 11) (oi := { dst := some 50, op := Go.Op.binOp Go.BinOp.add 9 (Go.Operand.tmp 41) (Go.Operand.tmp 49) 9, type := 9, pos := "law.go:43", after := #[{ on := 2, ground := Go.Ground.data }, { on := 10, ground := Go.Ground.data }], guard := none }) (v := ?vv14) rfl (by kernel_rfl) (by kernel_rfl) (by kernel_rfl) (fun _ _ _ h => h) (Or.inl ⟨by rfl, ?hy14⟩) (by assumption) ?rr14
              case hy14 => intro w hSw; (try dsimp only at hSw); go_simp; all_goals with_reducible rfl
              try simp only [Act.put, List.setIfInBounds_toArray, List.set_cons_zero, List.set_cons_succ]
              refine wpAnyH_take (i := 16) (oi := { dst := some 55, op := Go.Op.binOp Go.BinOp.add 9 (Go.Operand.tmp 50) (Go.Operand.tmp 54) 9, type := 9, pos := "law.go:43", after := #[{ on := 11, ground := Go.Ground.data }, { on := 15, ground := Go.Ground.data }], guard := none }) (v := ?vv15) rfl (by kernel_rfl) (by kernel_rfl) (by kernel_rfl) (fun _ _ _ h => h) (Or.inl ⟨by rfl, ?hy15⟩) (by assumption) ?rr15
              case hy15 => intro w hSw; (try dsimp only at hSw); go_simp; all_goals with_reducible rfl
              try simp only [Act.put, List.setIfInBounds_toArray, List.set_cons_zero, List.set_cons_succ]
              refine wpAnyH_take (i := 17) (oi := { dst := some 7, op := Go.Op.assign (Go.Operand.tmp 55), type := 9, pos := "law.go:43", after := #[{ on := 16, ground := Go.Ground.data }, { on := 0, ground := Go.Ground.phase }, { on := 1, ground := Go.Ground.phase }, { on := 2, ground := Go.Ground.phase }, { on := 3, ground := Go.Ground.phase }, { on := 4, ground := Go.Ground.phase }, { on := 5, ground := Go.Ground.phase }, { on := 6, ground := Go.Ground.phase }, { on := 7, ground := Go.Ground.phase }, { on := 8, ground := Go.Ground.phase }, { on := 9, ground := Go.Ground.phase }, { on := 10, ground := Go.Ground.phase }, { on := 11, ground := Go.Ground.phase }, { on := 12, ground := Go.Ground.phase }, { on := 13, ground := Go.Ground.phase }, { on := 14, ground := Go.Ground.phase }, { on := 15, ground := Go.Ground.phase }, { on := 16, ground := Go.Ground.phase }], guard := none }) (v := ?vv16) rfl (by kernel_rfl) (by kernel_rfl) (by kernel_rfl) (fun _ _ _ h => h) (Or.inl ⟨by rfl, ?hy16⟩) (by assumption) ?rr16
              case hy16 => intro w hSw; (try dsimp only at hSw); go_simp; all_goals with_reducible rfl
              try simp only [Act.put, List.setIfInBounds_toArray, List.set_cons_zero, List.set_cons_succ]
              refine wpAnyH_done (by kernel_rfl) ?_ _
              rw [← HT.out]
              have HB2 := hid (HB1.out.trans ((below_alloc w1 (.cells #[.int .u8 (y : Int)] 5)).drew.mono HB1.out.size))
              clear hH0 hH1 hH2 hcv b0 b1 b2 b3 b4 b5 hmin n1 n2
              go_wp2_with fail
              refine (of_any7 s hl _).mono ?_
              rintro e w3 ⟨rfl, hb⟩
              rw [HV1.out]
              have HB3 := hid (HB2.out.trans (hb.mono HB2.out.size))
              clear hb
              go_wp2_with fail
              refine (of_any7 t (by omega) _).mono ?_
              rintro e w4 ⟨rfl, hb⟩
              rw [HV2.out]
              have HB4 := hid (HB3.out.trans (hb.mono HB3.out.size))
              clear hb
              go_wp2_with fail
              refine (of_any7 s hl _).mono ?_
              rintro e w5 ⟨rfl, hb⟩
              rw [HV1.out]
              have HB5 := hid (HB4.out.trans (hb.mono HB4.out.size))
              clear hb
              go_wp2_with fail
              refine (bytes_any7 vs _).mono ?_
              rintro e w6 ⟨rfl, hb⟩
              rw [HO1.out]
              have HB6 := hid (HB5.out.trans (hb.mono HB5.out.size))
              clear hb
              go_wp2_with fail
              refine (of_any7 (s ++ bs) (by rw [ByteArray.size_append]; omega) _).mono ?_
              rintro e w7 ⟨rfl, hb⟩
              rw [HW1.out]
              have HB7 := hid (HB6.out.trans (hb.mono HB6.out.size))
              clear hb
              go_wp2_with fail
              refine (bytes_any7 0 _).mono ?_
              rintro e w8 ⟨rfl, hb⟩
              rw [HO3.out]
              have HB8 := hid (HB7.out.trans (hb.mono HB7.out.size))
              clear hb
              go_wp2_with fail
              refine (of_any7 bz (by omega) _).mono ?_
              rintro e w9 ⟨rfl, hb⟩
              rw [← HZ.out]
              have HB9 := hid (HB8.out.trans (hb.mono HB8.out.size))
              clear hb
              go_wp2_with fail
              refine (of_any7 t (by omega) _).mono ?_
              rintro e w10 ⟨rfl, hb⟩
              rw [HV2.out]
              have HB10 := hid (HB9.out.trans (hb.mono HB9.out.size))
              clear hb
              go_wp2_with fail
              refine (bytes_any7 vt _).mono ?_
              rintro e w11 ⟨rfl, hb⟩
              rw [HO2.out]
              have HB11 := hid (HB10.out.trans (hb.mono HB10.out.size))
              clear hb
              go_wp2_with fail
              refine (of_any7 (t ++ bt) (by rw [ByteArray.size_append]; omega) _).mono ?_
              rintro e w12 ⟨rfl, hb⟩
              rw [HW2.out]
              have HB12 := hid (HB11.out.trans (hb.mono HB11.out.size))
              clear hb
              go_wp2_with fail
              refine (bytes_any7 0 _).mono ?_
              rintro e w13 ⟨rfl, hb⟩
              rw [HO3.out]
              have HB13 := hid (HB12.out.trans (hb.mono HB12.out.size))
              clear hb
              go_wp2_with fail
              refine (of_any7 bz (by omega) _).mono ?_
              rintro e w14 ⟨rfl, hb⟩
              rw [← HZ.out]
              have HB14 := hid (HB13.out.trans (hb.mono HB13.out.size))
              clear hb
              go_wp2_with fail
              go_ret
              exact ⟨by simp [bne, g1], HB14.out⟩
end Go.Proofs.Ytjpibkcbgogfoab
