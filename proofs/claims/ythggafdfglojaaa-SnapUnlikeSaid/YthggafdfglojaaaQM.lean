/- The sum of a text, from any sum on: the program's. -/
import Derived.Test.YthggafdfglojaaaQF
import Derived.Test.YthggafdfglojaaaQD
namespace Go.Proofs.Ythggafdfglojaaa
open Go.RowKit
set_option maxRecDepth 100000
set_option maxHeartbeats 1500000 in
theorem more_any (n : Int) (s : ByteArray) (hl : s.size ≤ 9223372036854775807) (w : World) : Calls Try.prog 96 #[.int .i64 n, .string s] w fun e w' => e = .returned (.int .i64 (moI n s)) ∧ Below w.heap.size w w' := by
  have Z := zero33
  have SC := tb_store
  have hsz := tbC_size 256
  have hsg : IntKind.u32.signed = false := rfl
  cases hn : suB n
  · have e : moI n s = 0 := by unfold moI; rw [if_neg (by rw [hn]; decide)]
    rw [e]; clear e
    go_enter Try.func96, Try.ntmps96
    go_wp2_with (go_at_call 95; refine (issum_any _ _).mono ?_; rintro e w' ⟨rfl, rfl⟩)
    go_ret
    exact ⟨rfl, Below.refl _ _⟩
  · obtain ⟨h0, h1⟩ := suB_iff.1 hn
    obtain ⟨m, rfl⟩ : ∃ m : Nat, n = m := ⟨n.toNat, by omega⟩
    have hm : m < 4294967296 := by omega
    have EM := hid (moI_yes hm s)
    have hu1 : IntKind.u32.wrap (m : Int) = m := IntWalk.u32_in _ ⟨by omega, by omega⟩
    obtain ⟨v0, hv0⟩ : ∃ v0, v0 = mx - m := ⟨_, rfl⟩
    have hvl : v0 < 4294967296 := by rw [hv0]; unfold mx; omega
    have hu2 : bits .xor .u32 IntKind.u32.max (m : Int) = (v0 : Int) := by
      have := u32_xor_nat mx m (by decide) hm
      rw [← turn_sub hm, ← hv0] at this
      exact this
    have HV0 := hid hv0
    have HVL := hid hvl
    have HLT := hid (byL_lt s)
    clear h0 h1 hv0 hm hvl
    go_enter Try.func96, Try.ntmps96
    go_wp2_with (first | (go_at_call 95; refine (issum_any _ _).mono ?_; rintro e w' ⟨rfl, rfl⟩) | (go_at_call 118; refine (each_any _).mono ?_; rintro e w1 ⟨rfl, hb⟩))
    have HB1 := hid (hb.trans ((below_alloc w1 (.cells (tbC 256) 114)).mono hb.size))
    have HT := hid (Lies.new w1 114 (tbC 256))
    clear hb Z SC hsz
    go_loop [17, 6] (fun i z => ∃ k : Nat, k ≤ s.size ∧ i = .int .i64 k ∧ z = .int .u32 ((cu v0 ((byL s).take k) : Nat) : Int)) (fun i _ => s.size - (intOf i).toNat)
    case atStart => exact ⟨0, by omega, rfl, rfl⟩
    case round =>
      obtain ⟨k, hk, rfl, rfl⟩ := hrel
      have hv : cu v0 ((byL s).take k) < 4294967296 := cu_lt HVL.out (take_lt HLT.out k)
      by_cases hlt : k < s.size
      · obtain ⟨v, hv'⟩ : ∃ v, v = cu v0 ((byL s).take k) := ⟨_, rfl⟩
        rw [← hv'] at hv ⊢
        obtain ⟨c, hc⟩ : ∃ c, c = (s[k]'hlt).toNat := ⟨_, rfl⟩
        have hcl : c < 256 := by rw [hc]; exact (s[k]'hlt).toNat_lt
        have HST : Hid (cu v0 ((byL s).take (k + 1)) = gk 8 (v ^^^ c)) := by
          show _ = _
          rw [byL_step s k hlt, cu_one, ← hv', hc]
        have b0 : ((s[k]'hlt).toNat : Int) = (c : Int) := by rw [hc]
        obtain ⟨q, hq⟩ : ∃ q, q = v / 256 := ⟨_, rfl⟩
        obtain ⟨a, ha⟩ : ∃ a, a = v % 256 := ⟨_, rfl⟩
        obtain ⟨x, hx⟩ : ∃ x, x = a ^^^ c := ⟨_, rfl⟩
        obtain ⟨y, hy⟩ : ∃ y, y = gk 8 x := ⟨_, rfl⟩
        have hal : a < 256 := by omega
        have hxl : x < 256 := by rw [hx]; exact Nat.xor_lt_two_pow (n := 8) hal hcl
        have hyl : y < 4294967296 := by rw [hy]; exact gk_lt 8 (by omega)
        have hql : q < 4294967296 := by omega
        have HY : Hid (q ^^^ y = gk 8 (v ^^^ c)) := by
          show _ = _
          rw [hy, hx, hq, ha, table_step]
        have b1 : IntKind.u8.wrap (v : Int) = (a : Int) := by rw [IntKind.wrap_u8, ha]; omega
        have b2 : (v : Int) / 256 = (q : Int) := by rw [hq]; omega
        have b3 : bits .xor .u8 (a : Int) (c : Int) = (x : Int) := by rw [hx]; exact u8_xor_nat a c hal hcl
        have b4 : bits .xor .u32 (q : Int) (y : Int) = ((gk 8 (v ^^^ c) : Nat) : Int) := by rw [← HY.out]; exact u32_xor_nat q y hql hyl
        have c1 := HT.out.cell x
        rw [tbC_at hxl, if_pos hxl, ← hy] at c1
        clear hv' hc hq ha hx hy
        go_wp2
        go_round
        case rel => exact ⟨k + 1, by omega, by go_num, by rw [HST.out]⟩
        case measure => simp [intOf]; omega
      · obtain rfl : k = s.size := by omega
        have hz : (byL s).take s.size = byL s := List.take_of_length_le (by rw [byL_len]; omega)
        obtain ⟨v, hv'⟩ : ∃ v, v = cu v0 ((byL s).take s.size) := ⟨_, rfl⟩
        rw [← hv'] at hv ⊢
        have HE : Hid (moI (m : Int) s = ((mx - v : Nat) : Int)) := by
          show _ = _
          rw [EM.out, hv', hz, HV0.out]; rfl
        obtain ⟨u, hu⟩ : ∃ u, u = mx - v := ⟨_, rfl⟩
        have hul : u < 4294967296 := by rw [hu]; unfold mx; omega
        rw [← hu] at HE
        have b1 : bits .xor .u32 IntKind.u32.max (v : Int) = (u : Int) := by
          have := u32_xor_nat mx v (by decide) hv
          rw [← turn_sub hv, ← hu] at this
          exact this
        have b2 : wrap64 (u : Int) = u := by unfold wrap64; omega
        clear hu hv' hz
        go_wp2
        go_ret
        exact ⟨by rw [HE.out]; rfl, HB1.out⟩
theorem of_any7 (s : ByteArray) (hl : s.size ≤ 9223372036854775807) (w : World) : Calls Try.prog 67 #[.string s] w fun e w' => e = .returned (.int .i64 (moI 0 s)) ∧ Below w.heap.size w w' := by
  go_enter Try.func67, Try.ntmps67
  go_wp2_with fail
  refine (more_any 0 s hl _).mono ?_
  rintro e w' ⟨rfl, hb⟩
  go_wp2
  go_ret; exact ⟨rfl, hb⟩
end Go.Proofs.Ythggafdfglojaaa
