/- The program's small words on inputs: a SmallInteger's value; is a number none; of a list, whether all are. -/
import Derived.Test.YtimmoaomhilaeaaSC16
import Derived.Laws.EntriesVeiled
namespace Go.Proofs.Ytimmoaomhilaeaa
open Go.RowKit
set_option maxRecDepth 100000
theorem nat_or16 (m : Nat) (h : m % 2 = 0) : m ||| 1 = m + 1 := by
  have := Nat.two_pow_add_eq_or_of_lt (i := 1) (b := 1) (by decide) (m / 2)
  have e : 2 ^ 1 * (m / 2) = m := by omega
  rw [e] at this; exact this.symm
theorem or16 (n : Int) (h : n % 2 = 0) (h1 : -9223372036854775808 ≤ n) (h2 : n ≤ 9223372036854775806) : bits .or .i64 n 1 = n + 1 := by
  have e1 : (BitVec.ofInt 64 1).toNat = 1 := by decide
  have key : (BitVec.ofInt 64 n ||| BitVec.ofInt 64 1).toNat = (n % ((2 ^ 64 : Nat) : Int)).toNat + 1 := by
    rw [BitVec.toNat_or, BitVec.toNat_ofInt, e1, nat_or16]
    omega
  show IntKind.i64.wrap ((BitVec.ofInt 64 n ||| BitVec.ofInt 64 1).toNat : Nat) = n + 1
  rw [key, IntKind.wrap_i64]
  omega
theorem vint_any16 (n : Int) (w : World) : Calls Try.prog 28 #[.int .i64 n] w fun e w' => e = .returned (.tuple #[.int .i64 (rI16 n), .bool (smB n)]) ∧ w = w' := by
  cases h : smB n
  · go_enter Try.func28, Try.ntmps28
    go_wp2_with (go_at_call 29; refine (small_any _ _).mono ?_; rintro e w' ⟨rfl, rfl⟩)
    go_ret2; exact ⟨by simp [rI16, h], rfl⟩
  · have hb := smB_iff.1 h
    have e : rI16 n = bits .or .i64 (n * 2) 1 := by rw [or16 _ (by omega) (by omega) (by omega)]; simp [rI16, h]; omega
    rw [e]; clear e
    have h1 := hb.1
    have h2 := hb.2
    clear hb
    go_enter Try.func28, Try.ntmps28
    go_wp2_with (go_at_call 29; refine (small_any _ _).mono ?_; rintro e w' ⟨rfl, rfl⟩)
    go_ret2; exact ⟨rfl, rfl⟩
theorem pns_any16 (n : Int) (w : World) : Calls Try.prog 25 #[.int .i64 n] w fun e w' => e = .returned (.bool (!smB n)) ∧ w = w' := by
  go_enter Try.func25, Try.ntmps25
  go_wp2_with (go_at_call 28; refine (vint_any16 _ _).mono ?_; rintro e w' ⟨rfl, rfl⟩)
  go_ret
  exact ⟨rfl, rfl⟩
theorem pidx_any16 (S : Option Addr) (xs : List Int) (d : Nat) (w : World) (hs : IntsR w S xs) (hl : xs.length ≤ 9223372036854775807) :
    Calls Try.prog 27 #[.slice S xs.length d, .func (.func 25) #[] #[]] w fun e w' => ∃ n : Int, e = .returned (.int .i64 n) ∧ (n < 0 ↔ xs.all smB = true) ∧ w = w' := by
  go_enter Try.func27, Try.ntmps27
  go_wp2
  go_loopw [8] (fun i wr => ∃ k : Nat, k ≤ xs.length ∧ i = .int .i64 k ∧ (xs.take k).all smB = true ∧ w = wr) (fun i _ => xs.length - (intOf i).toNat)
  case atStart => exact ⟨0, Nat.zero_le _, rfl, rfl, rfl⟩
  case round =>
    obtain ⟨k, hk, rfl, hall, rfl⟩ := hrel
    by_cases hlt2 : k < xs.length
    · obtain ⟨bs, os, rfl, hbs, hcs⟩ := hs (by omega)
      have hcell : w.cell? ⟨bs, os + k, none⟩ = some (.int .i64 xs[k]) := hcs k _ (List.getElem?_eq_getElem hlt2)
      have htk : (xs.take (k + 1)).all smB = ((xs.take k).all smB && smB xs[k]) := by
        rw [List.take_succ_eq_append_getElem hlt2, List.all_append]; simp
      have HT := hid htk
      have HA := hid hall
      have HS := hid hs
      clear htk hall hcs hs
      cases hv : smB xs[k]
      · go_wp2_with (first | (go_at_call 25; refine (pns_any16 _ _).mono ?_; rintro e w' ⟨rfl, rfl⟩))
        go_ret
        refine ⟨k, rfl, ?_, rfl⟩
        constructor
        · intro hh; omega
        · intro hh
          have := List.all_eq_true.1 hh xs[k] (List.getElem_mem hlt2)
          rw [hv] at this; cases this
      · go_wp2_with (first | (go_at_call 25; refine (pns_any16 _ _).mono ?_; rintro e w' ⟨rfl, rfl⟩))
        go_roundw
        case rel => exact ⟨k + 1, by omega, by go_num, by rw [HT.out, HA.out, hv]; rfl, by first | trivial | rfl⟩
        case measure => simp [intOf]; omega
    · have e : k = xs.length := by omega
      subst e
      have HA := hid hall
      clear hall
      go_wp2
      go_ret
      refine ⟨-1, rfl, ⟨fun _ => ?_, fun _ => by omega⟩, rfl⟩
      have := HA.out
      rwa [List.take_length] at this
theorem pcon_any16 (S : Option Addr) (xs : List Int) (d : Nat) (w : World) (hs : IntsR w S xs) (hl : xs.length ≤ 9223372036854775807) :
    Calls Try.prog 24 #[.slice S xs.length d, .func (.func 25) #[] #[]] w fun e w' => e = .returned (.bool (!xs.all smB)) ∧ w = w' := by
  have K := hid (pidx_any16 S xs d w hs hl)
  clear hs hl
  go_enter Try.func24, Try.ntmps24
  go_wp2_with fail
  refine K.out.mono ?_
  rintro e w' ⟨n, rfl, hn, rfl⟩
  have e2 : (!xs.all smB) = decide (0 ≤ n) := by
    cases hx : xs.all smB <;> rw [hx] at hn <;> simp at hn ⊢ <;> omega
  have E2 := hid e2
  clear hn e2 K
  go_wp2
  go_ret
  exact ⟨by rw [E2.out]; rfl, rfl⟩
theorem psm_any16 (S : Option Addr) (xs : List Int) (d : Nat) (w : World) (hs : IntsR w S xs) (hl : xs.length ≤ 9223372036854775807) :
    Calls Try.prog 21 #[.slice S xs.length d] w fun e w' => e = .returned (.bool (xs.all smB)) ∧ w = w' := by
  have K := hid (pcon_any16 S xs d w hs hl)
  clear hs hl
  go_enter Try.func21, Try.ntmps21
  go_wp2_with fail
  refine K.out.mono ?_
  rintro e w' ⟨rfl, rfl⟩
  clear K
  go_wp2
  go_ret
  exact ⟨rfl, rfl⟩
end Go.Proofs.Ytimmoaomhilaeaa
