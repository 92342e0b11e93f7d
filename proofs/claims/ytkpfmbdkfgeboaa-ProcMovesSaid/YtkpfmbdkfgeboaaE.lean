/- What may be: the closures, the library's ContainsFunc, May. -/
import Derived.Test.YtkpfmbdkfgeboaaM
namespace Go.Proofs.Ytkpfmbdkfgeboaa
open Go.RowKit
/-- a heap's box -/
structure BoxH (w : World) (b : Nat) (h : Hp) (A : Option Addr) (c : Nat) : Prop where
  b0 : w.cell? ⟨b, 0, none⟩ = some (.slice A h.objs.length c)
  b1 : w.cell? ⟨b, 1, none⟩ = some (.int .i64 h.cap)
  b2 : w.cell? ⟨b, 2, none⟩ = some (.int .i64 h.last)
theorem BoxH.below {w w' : World} {b : Nat} {h : Hp} {A : Option Addr} {c : Nat} (k : BoxH w b h A c) (hlt : b < w.heap.size) (hb : Below w.heap.size w w') : BoxH w' b h A c :=
  ⟨(hb.cell (p := ⟨b, _, none⟩) hlt).trans k.b0, (hb.cell (p := ⟨b, _, none⟩) hlt).trans k.b1, (hb.cell (p := ⟨b, _, none⟩) hlt).trans k.b2⟩

theorem may1_any (h : Hp) (x : Int) (A : Option Addr) (c b : Nat) (w : World) (hb : BoxH w b h A c) :
    Calls Try.prog 57 #[.int .i64 x, .pointer (some ⟨b, 0, none⟩)] w fun e w' => e = .returned (.bool (!hasB h.objs.length x)) ∧ Below w.heap.size w w' := by
  obtain ⟨h0, h1, h2⟩ := hb
  go_enter Try.func57, Try.ntmps57
  go_wp2_with (first | (go_at_call 58; refine (isval_any h _ A c _).mono ?_; rintro e w' ⟨rfl, hb⟩))
  go_ret
  exact ⟨rfl, hb⟩
def noVal (n : Nat) (x : Int) : Bool := !hasB n x
theorem idx1_any (h : Hp) (A : Option Addr) (c b : Nat) (S : Option Addr) (xs : List Int) (d : Nat) (w : World) (hb : BoxH w b h A c) (hlt : b < w.heap.size) (hs : IntsR w S xs) (hl : xs.length ≤ 9223372036854775807) :
    Calls Try.prog 49 #[.slice S xs.length d, .func (.func 57) #[] #[.pointer (some ⟨b, 0, none⟩)]] w fun e w' => ∃ n : Int, e = .returned (.int .i64 n) ∧ (n < 0 ↔ xs.all (hasB h.objs.length) = true) ∧ Below w.heap.size w w' := by
  go_enter Try.func49, Try.ntmps49
  go_wp2
  go_loopw [8] (fun i wr => ∃ k : Nat, k ≤ xs.length ∧ i = .int .i64 k ∧ (xs.take k).all (hasB h.objs.length) = true ∧ Below w.heap.size w wr) (fun i _ => xs.length - (intOf i).toNat)
  case atStart => exact ⟨0, Nat.zero_le _, rfl, rfl, Below.refl _ _⟩
  case round =>
    obtain ⟨k, hk, rfl, hall, hbw⟩ := hrel
    by_cases hlt2 : k < xs.length
    · obtain ⟨bs, os, rfl, hbs, hcs⟩ := hs (by omega)
      have hcell : wr.cell? ⟨bs, os + k, none⟩ = some (.int .i64 xs[k]) := (hbw.cell (p := ⟨bs, os + k, none⟩) hbs).trans (hcs k _ (List.getElem?_eq_getElem hlt2))
      have hbr := hid (hb.below hlt hbw)
      have htk : (xs.take (k + 1)).all (hasB h.objs.length) = ((xs.take k).all (hasB h.objs.length) && hasB h.objs.length xs[k]) := by
        rw [List.take_succ_eq_append_getElem hlt2, List.all_append]; simp
      have HT := hid htk
      have HA := hid hall
      have HW := hid hbw
      have HS := hid hs
      clear htk hall hbw hcs hb hs
      cases hv : hasB h.objs.length xs[k]
      · go_wp2_with (first | (go_at_call 57; refine (may1_any h _ A c b _ hbr.out).mono ?_; rintro e w' ⟨rfl, hb⟩))
        go_ret
        refine ⟨k, rfl, ?_, HW.out.trans (hb.mono HW.out.size)⟩
        constructor
        · intro hh; omega
        · intro hh
          have := List.all_eq_true.1 hh xs[k] (List.getElem_mem hlt2)
          rw [hv] at this; cases this
      · go_wp2_with (first | (go_at_call 57; refine (may1_any h _ A c b _ hbr.out).mono ?_; rintro e w' ⟨rfl, hb⟩))
        go_roundw
        case rel => exact ⟨k + 1, by omega, by go_num, by rw [HT.out, HA.out, hv]; rfl, HW.out.trans (hb.mono HW.out.size)⟩
        case measure => simp [intOf]; omega
    · have e : k = xs.length := by omega
      subst e
      have HA := hid hall
      have HW := hid hbw
      clear hall hbw
      go_wp2
      go_ret
      refine ⟨-1, rfl, ⟨fun _ => ?_, fun _ => by omega⟩, HW.out⟩
      have := HA.out
      rwa [List.take_length] at this
theorem con1_any (h : Hp) (A : Option Addr) (c b : Nat) (S : Option Addr) (xs : List Int) (d : Nat) (w : World) (hb : BoxH w b h A c) (hlt : b < w.heap.size) (hs : IntsR w S xs) (hl : xs.length ≤ 9223372036854775807) :
    Calls Try.prog 62 #[.slice S xs.length d, .func (.func 57) #[] #[.pointer (some ⟨b, 0, none⟩)]] w fun e w' => e = .returned (.bool (!xs.all (hasB h.objs.length))) ∧ Below w.heap.size w w' := by
  have K := hid (idx1_any h A c b S xs d w hb hlt hs hl)
  clear hs hl hlt hb
  go_enter Try.func62, Try.ntmps62
  go_wp2_with fail
  refine K.out.mono ?_
  rintro e w' ⟨n, rfl, hn, hb⟩
  have e2 : (!xs.all (hasB h.objs.length)) = decide (0 ≤ n) := by
    cases hx : xs.all (hasB h.objs.length) <;> rw [hx] at hn <;> simp at hn ⊢ <;> omega
  have E2 := hid e2
  clear hn e2 K
  go_wp2
  go_ret
  exact ⟨by rw [E2.out]; rfl, hb⟩

/-- has an object nothing but what its kind has, and not too much of that? -/
def kiB (o : Ob) : Bool :=
  if o.kind = 0 then decide ((o.slots.length : Int) ≤ 64) && decide (o.text.toList = []) && (o.bits == 0)
  else if o.kind = 1 then decide (o.slots = []) && decide ((o.text.size : Int) ≤ 64) && (o.bits == 0)
  else if o.kind = 2 then decide (o.slots = []) && decide (o.text.toList = []) && (o.bits == canon o.bits) else false
/-- may it be in a heap of n objects? -/
def obB (n : Nat) (o : Ob) : Bool := refB n o.cls && haB o.hash && kiB o && o.slots.all (hasB n)
def mayB (h : Hp) : Bool := decide (1 ≤ h.cap ∧ h.cap ≤ 256 ∧ (h.objs.length : Int) ≤ h.cap) && haB h.last && h.objs.all (obB h.objs.length)


theorem ret_bool {a b : Bool} (h : a = b) : Ending.returned (.bool a) = .returned (.bool b) := by rw [h]
set_option maxHeartbeats 1000000 in
theorem kind_of (o : Ob) (S : Option Addr) (c : Nat) (w : World) : Calls Try.prog 61 #[.agg #[.int .i64 o.cls, .int .i64 o.kind, .slice S o.slots.length c, .string o.text, .int .i64 o.bits, .int .i64 o.hash]] w fun e w' => e = .returned (.bool (kiB o)) ∧ Below w.heap.size w w' := by
  have HB := hid (below_alloc w (.cells #[.int .i64 o.cls, .int .i64 o.kind, .slice S o.slots.length c, .string o.text, .int .i64 o.bits, .int .i64 o.hash] 43))
  by_cases k0 : o.kind = 0
  · have K0 := hid k0
    have k0' : (o.kind == 0) = true := by simpa using k0
    clear k0
    go_enter Try.func61, Try.ntmps61
    go_wp2
    all_goals go_ret
    all_goals
      refine ⟨ret_bool ?_, below_alloc _ _⟩
      unfold kiB
      rw [if_pos K0.out]
      simp_all
      try omega
  · have K0 := hid k0
    have k0' : (o.kind == 0) = false := by simpa using k0
    clear k0
    by_cases k1 : o.kind = 1
    · have K1 := hid k1
      have k1' : (o.kind == 1) = true := by simpa using k1
      clear k1
      go_enter Try.func61, Try.ntmps61
      go_wp2
      all_goals go_ret
      all_goals
        refine ⟨ret_bool ?_, below_alloc _ _⟩
        unfold kiB
        rw [if_neg K0.out, if_pos K1.out]
        simp_all
        try omega
    · have K1 := hid k1
      have k1' : (o.kind == 1) = false := by simpa using k1
      clear k1
      by_cases k2 : o.kind = 2
      · have K2 := hid k2
        have k2' : (o.kind == 2) = true := by simpa using k2
        clear k2
        by_cases e1 : o.slots = []
        · have e1' : ((o.slots.length : Int) == 0) = true := by rw [e1]; rfl
          have E1 := hid e1
          clear e1
          by_cases e2 : o.text.toList = []
          · have e2' : o.text.toList.isEmpty = true := by rw [e2]; rfl
            have E2 := hid e2
            clear e2
            go_enter Try.func61, Try.ntmps61
            go_wp2
            go_quiet ((go_at_call 76; exact Calls.quiet_of_same ((canon_any _ _).mono fun _ _ ⟨he, hw⟩ => ⟨he, hw.symm⟩)))
            go_wp2
            go_ret
            refine ⟨ret_bool ?_, (below_alloc _ _).trans ⟨rfl, rfl, rfl, Nat.le_refl _, fun _ _ => rfl⟩⟩
            unfold kiB
            rw [if_neg K0.out, if_neg K1.out, if_pos K2.out]
            simp [E1.out, E2.out]
          · have e2' : o.text.toList.isEmpty = false := by simpa using e2
            have E2 := hid e2
            clear e2
            go_enter Try.func61, Try.ntmps61
            go_wp2
            go_quiet ((go_at_call 76; exact Calls.quiet_of_same ((canon_any _ _).mono fun _ _ ⟨he, hw⟩ => ⟨he, hw.symm⟩)))
            go_wp2
            go_ret
            refine ⟨ret_bool ?_, (below_alloc _ _).trans ⟨rfl, rfl, rfl, Nat.le_refl _, fun _ _ => rfl⟩⟩
            unfold kiB
            rw [if_neg K0.out, if_neg K1.out, if_pos K2.out]
            simp [E1.out, E2.out]
        · have e1' : ((o.slots.length : Int) == 0) = false := by simpa using e1
          have E1 := hid e1
          clear e1
          · go_enter Try.func61, Try.ntmps61
            go_wp2
            go_quiet ((go_at_call 76; exact Calls.quiet_of_same ((canon_any _ _).mono fun _ _ ⟨he, hw⟩ => ⟨he, hw.symm⟩)))
            go_wp2
            go_ret
            refine ⟨ret_bool ?_, (below_alloc _ _).trans ⟨rfl, rfl, rfl, Nat.le_refl _, fun _ _ => rfl⟩⟩
            unfold kiB
            rw [if_neg K0.out, if_neg K1.out, if_pos K2.out]
            simp [E1.out]
      · have K2 := hid k2
        have k2' : (o.kind == 2) = false := by simpa using k2
        clear k2
        go_enter Try.func61, Try.ntmps61
        go_wp2
        all_goals go_ret
        refine ⟨ret_bool ?_, HB.out⟩
        unfold kiB
        rw [if_neg K0.out, if_neg K1.out, if_neg K2.out]

theorem IntsR.on {w w' : World} {A : Option Addr} {xs : List Int} (h : IntsR w A xs) (hb : Below w.heap.size w w') : Hid (IntsR w' A xs) := h.below hb
set_option maxHeartbeats 1000000 in
theorem may2_any (h : Hp) (o : Ob) (S : Option Addr) (d : Nat) (A : Option Addr) (c b bf : Nat) (w : World) (hb : BoxH w b h A c) (hlt : b < w.heap.size) (hf : w.cell? ⟨bf, 0, none⟩ = some (.func (.func 57) #[] #[.pointer (some ⟨b, 0, none⟩)])) (hltf : bf < w.heap.size)
    (hs : IntsR w S o.slots) (hl : o.slots.length ≤ 9223372036854775807) :
    Calls Try.prog 59 #[.agg #[.int .i64 o.cls, .int .i64 o.kind, .slice S o.slots.length d, .string o.text, .int .i64 o.bits, .int .i64 o.hash], .pointer (some ⟨b, 0, none⟩), .pointer (some ⟨bf, 0, none⟩)] w fun e w' => e = .returned (.bool (!obB h.objs.length o)) ∧ Below w.heap.size w w' := by
  have HB0 := hid (below_alloc w (.cells #[.int .i64 o.cls, .int .i64 o.kind, .slice S o.slots.length d, .string o.text, .int .i64 o.bits, .int .i64 o.hash] 43))
  have HS := hid hs
  have HX := hid hb
  have hlt1 : b < w.heap.size + 1 := by omega
  have hltf1 : bf < w.heap.size + 1 := by omega
  obtain ⟨h0, h1, h2⟩ := hb
  clear hs
  go_enter Try.func59, Try.ntmps59
  go_wp2_with fail
  refine (find_any h _ A c _).mono ?_
  rintro e w1 ⟨rfl, hb1⟩
  have HB1 := hid (HB0.out.trans (hb1.mono (by simp)))
  obtain ⟨hc1, hf1⟩ := bcell hb1
  have hz1 : w.heap.size + 1 ≤ w1.heap.size := by have := hb1.size; simp at this; omega
  clear hb1
  cases r0 : refB h.objs.length o.cls
  · go_wp2
    go_ret
    exact ⟨ret_bool (by unfold obB; rw [r0]; rfl), HB1.out⟩
  · cases r1 : haB o.hash
    · go_wp2_with (first | (go_at_call 56; refine (ishash_any _ _).mono ?_; rintro e w' ⟨rfl, rfl⟩))
      go_ret
      exact ⟨ret_bool (by unfold obB; rw [r0, r1]; rfl), HB1.out⟩
    · go_wp2_with (first | (go_at_call 56; refine (ishash_any _ _).mono ?_; rintro e w' ⟨rfl, rfl⟩))
      refine (kind_of o S d _).mono ?_
      rintro e w2 ⟨rfl, hb2⟩
      have HB2 := hid (HB1.out.trans (hb2.mono HB1.out.size))
      have hz2 : w.heap.size + 1 ≤ w2.heap.size := by have := hb2.size; omega
      have hlt2 : b < w1.heap.size := by omega
      have hltf2 : bf < w1.heap.size := by omega
      have hlt2' : w.heap.size < w1.heap.size := by omega
      obtain ⟨hc2, hf2⟩ := bcell hb2
      clear hb2
      cases r2 : kiB o
      · go_wp2
        go_ret
        exact ⟨ret_bool (by unfold obB; rw [r0, r1, r2]; rfl), HB2.out⟩
      · go_wp2_with fail
        refine (con1_any h A c b S o.slots d _ (HX.out.below hlt HB2.out) (by omega) (HS.out.below HB2.out) hl).mono ?_
        rintro e w3 ⟨rfl, hb3⟩
        have HB3 := hid (HB2.out.trans (hb3.mono HB2.out.size))
        go_wp2
        go_ret
        exact ⟨ret_bool (by unfold obB; rw [r0, r1, r2]; rfl), HB3.out⟩
end Go.Proofs.Ytkpfmbdkfgeboaa
