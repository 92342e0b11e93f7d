/- mark's small functions: isValue, the closure of Live, ContainsFunc over roots. -/
import Derived.Test.YtelljlmjhnjpiaaG
import Derived.Laws.EntriesVeiled
namespace Go.Proofs.Ytelljlmjhnjpiaa
open Go.RowKit
set_option maxRecDepth 100000
theorem vmay_any (v : Int) (w : World) : Calls Try.prog 103 #[.int .i64 v] w fun e w' => e = .returned (.bool (nB v || atB v)) ∧ w = w' := by
  cases hn : nB v
  · go_enter Try.func103, Try.ntmps103
    go_wp2_with (first | (go_at_call 75; refine (n_any _ _).mono ?_; rintro e w' ⟨rfl, rfl⟩) | (go_at_call 76; refine (at_any _ _).mono ?_; rintro e w' ⟨rfl, rfl⟩))
    go_ret
    exact ⟨rfl, rfl⟩
  · go_enter Try.func103, Try.ntmps103
    go_wp2_with (first | (go_at_call 75; refine (n_any _ _).mono ?_; rintro e w' ⟨rfl, rfl⟩) | (go_at_call 76; refine (at_any _ _).mono ?_; rintro e w' ⟨rfl, rfl⟩))
    go_ret
    exact ⟨rfl, rfl⟩
theorem misval_any (h : Hp) (v : Int) (A : Option Addr) (c : Nat) (w : World) :
    Calls Try.prog 89 #[.agg #[.slice A h.objs.length c, .int .i64 h.cap, .int .i64 h.last], .int .i64 v] w fun e w' => e = .returned (.bool (hasB h.objs.length v)) ∧ Below w.heap.size w w' := by
  have HB := hid (below_alloc w (.cells #[Value.slice A h.objs.length c, Value.int .i64 h.cap, Value.int .i64 h.last] 24))
  cases ha : atB v
  · have e2 : hasB h.objs.length v = nB v := by simp [hasB, refB, ha]
    rw [e2]; clear e2
    go_enter Try.func89, Try.ntmps89
    go_wp2_with (first | (go_at_call 76; refine (at_any _ _).mono ?_; rintro e w' ⟨rfl, rfl⟩) | (go_at_call 103; refine (vmay_any _ _).mono ?_; rintro e w' ⟨rfl, rfl⟩))
    go_ret
    refine ⟨?_, HB.out⟩
    refine congrArg (fun x => Ending.returned (Value.bool x)) ?_
    simp
  · have hn : nB v = false := by
      cases hn : nB v
      · rfl
      · have := nB_iff.1 hn; have := atB_iff.1 ha; omega
    have e2 : hasB h.objs.length v = decide (atV v < (h.objs.length : Int)) := by simp [hasB, refB, ha, hn]
    rw [e2]; clear e2
    go_enter Try.func89, Try.ntmps89
    go_wp2_with (first | (go_at_call 76; refine (at_any _ _).mono ?_; rintro e w' ⟨rfl, rfl⟩) | (go_at_call 103; refine (vmay_any _ _).mono ?_; rintro e w' ⟨rfl, rfl⟩))
    go_ret
    exact ⟨rfl, HB.out⟩
theorem live1_any (h : Hp) (x : Int) (A : Option Addr) (c b : Nat) (w : World) (hb : BoxH w b h A c) :
    Calls Try.prog 88 #[.int .i64 x, .pointer (some ⟨b, 0, none⟩)] w fun e w' => e = .returned (.bool (!hasB h.objs.length x)) ∧ Below w.heap.size w w' := by
  obtain ⟨h0, h1, h2⟩ := hb
  go_enter Try.func88, Try.ntmps88
  go_wp2_with (first | (go_at_call 89; refine (misval_any h _ A c _).mono ?_; rintro e w' ⟨rfl, hb⟩))
  go_ret
  exact ⟨rfl, hb⟩
theorem idxr_any (h : Hp) (A : Option Addr) (c b : Nat) (S : Option Addr) (xs : List Int) (d : Nat) (w : World) (hb : BoxH w b h A c) (hlt : b < w.heap.size) (hs : IntsR w S xs) (hl : xs.length ≤ 9223372036854775807) :
    Calls Try.prog 80 #[.slice S xs.length d, .func (.func 88) #[] #[.pointer (some ⟨b, 0, none⟩)]] w fun e w' => ∃ n : Int, e = .returned (.int .i64 n) ∧ (n < 0 ↔ xs.all (hasB h.objs.length) = true) ∧ Below w.heap.size w w' := by
  go_enter Try.func80, Try.ntmps80
  go_wp2
  go_loopw [8] (fun i wr => ∃ k : Nat, k ≤ xs.length ∧ i = .int .i64 k ∧ (xs.take k).all (hasB h.objs.length) = true ∧ Below w.heap.size w wr) (fun i _ => xs.length - (intOf i).toNat)
  case atStart => exact ⟨0, Nat.zero_le _, rfl, rfl, Below.refl _ _⟩
  case round =>
    obtain ⟨k, hk, rfl, hall, hbw⟩ := hrel
    by_cases hlt2 : k < xs.length
    · obtain ⟨bs, os, rfl, hbs, hcs⟩ := hs (by omega)
      have hcell : wr.cell? ⟨bs, os + k, none⟩ = some (.int .i64 xs[k]) := (hbw.cell (p := ⟨bs, os + k, none⟩) hbs).trans (hcs k _ (List.getElem?_eq_getElem hlt2))
      have hbr := hid (hb.below hlt hbw)
      have htk : (xs.take (k + 1)).all (hasB h.objs.length) = ((xs.take k).all (hasB h.objs.length) && hasB h.objs.length xs[k]) := by
        rw [List.take_succ_eq_append_getElem hlt2, List.all_append]; simp
      have HT := hid htk
      have HA := hid hall
      have HW := hid hbw
      have HS := hid hs
      clear htk hall hbw hcs hb hs
      cases hv : hasB h.objs.length xs[k]
      · go_wp2_with (first | (go_at_call 88; refine (live1_any h _ A c b _ hbr.out).mono ?_; rintro e w' ⟨rfl, hb⟩))
        go_ret
        refine ⟨k, rfl, ?_, HW.out.trans (hb.mono HW.out.size)⟩
        constructor
        · intro hh; omega
        · intro hh
          have := List.all_eq_true.1 hh xs[k] (List.getElem_mem hlt2)
          rw [hv] at this; cases this
      · go_wp2_with (first | (go_at_call 88; refine (live1_any h _ A c b _ hbr.out).mono ?_; rintro e w' ⟨rfl, hb⟩))
        go_roundw
        case rel => exact ⟨k + 1, by omega, by go_num, by rw [HT.out, HA.out, hv]; rfl, HW.out.trans (hb.mono HW.out.size)⟩
        case measure => simp [intOf]; omega
    · have e : k = xs.length := by omega
      subst e
      have HA := hid hall
      have HW := hid hbw
      clear hall hbw
      go_wp2
      go_ret
      refine ⟨-1, rfl, ⟨fun _ => ?_, fun _ => by omega⟩, HW.out⟩
      have := HA.out
      rwa [List.take_length] at this
theorem conr_any (h : Hp) (A : Option Addr) (c b : Nat) (S : Option Addr) (xs : List Int) (d : Nat) (w : World) (hb : BoxH w b h A c) (hlt : b < w.heap.size) (hs : IntsR w S xs) (hl : xs.length ≤ 9223372036854775807) :
    Calls Try.prog 57 #[.slice S xs.length d, .func (.func 88) #[] #[.pointer (some ⟨b, 0, none⟩)]] w fun e w' => e = .returned (.bool (!xs.all (hasB h.objs.length))) ∧ Below w.heap.size w w' := by
  have K := hid (idxr_any h A c b S xs d w hb hlt hs hl)
  clear hs hl hlt hb
  go_enter Try.func57, Try.ntmps57
  go_wp2_with fail
  refine K.out.mono ?_
  rintro e w' ⟨n, rfl, hn, hb⟩
  have e2 : (!xs.all (hasB h.objs.length)) = decide (0 ≤ n) := by
    cases hx : xs.all (hasB h.objs.length) <;> rw [hx] at hn <;> simp at hn ⊢ <;> omega
  have E2 := hid e2
  clear hn e2 K
  go_wp2
  go_ret
  exact ⟨by rw [E2.out]; rfl, hb⟩

end Go.Proofs.Ytelljlmjhnjpiaa
