/- Heaps of objects as plain data, and how they lie in memory. What may be: the closures, the library's ContainsFunc, May. Copies of lists of objects and of ints: slices.Clone, in memory of the call's own. -/
import Derived.Test.YtnilempeldlieaaGreatM01
import Derived.Deep.RegionHeld3
import Derived.Deep.RegionWith
import Derived.Laws.EntriesVeiled
import Derived.Deep.AppendLies
import Derived.Maps.AppendAt
namespace Go.Proofs.YtnilempeldlieaaGreat
open Go.RowKit

structure Ob where
  cls : Int
  kind : Int
  slots : List Int
  text : ByteArray
  bits : Int
  hash : Int

structure Hp where
  objs : List Ob
  cap : Int
  last : Int

/-- a slice of ints at address A reads as xs -/
def IntsR (w : World) (A : Option Addr) (xs : List Int) : Prop :=
  0 < xs.length → ∃ b o, A = some ⟨b, o, none⟩ ∧ b < w.heap.size ∧ ∀ j x, xs[j]? = some x → w.cell? ⟨b, o + j, none⟩ = some (.int .i64 x)

/-- six cells from off on hold the object -/
structure ObC (w : World) (b off : Nat) (S : Option Addr) (c : Nat) (o : Ob) : Prop where
  c0 : w.cell? ⟨b, off, none⟩ = some (.int .i64 o.cls)
  c1 : w.cell? ⟨b, off + 1, none⟩ = some (.int .i64 o.kind)
  c2 : w.cell? ⟨b, off + 2, none⟩ = some (.slice S o.slots.length c)
  c3 : w.cell? ⟨b, off + 3, none⟩ = some (.string o.text)
  c4 : w.cell? ⟨b, off + 4, none⟩ = some (.int .i64 o.bits)
  c5 : w.cell? ⟨b, off + 5, none⟩ = some (.int .i64 o.hash)

/-- a slice of objects at address A reads as os -/
def ObsR (w : World) (A : Option Addr) (os : List Ob) : Prop :=
  0 < os.length → ∃ b off, A = some ⟨b, off, none⟩ ∧ b < w.heap.size ∧
    ∀ i o, os[i]? = some o → ∃ S c, ObC w b (off + i * 6) S c o ∧ IntsR w S o.slots ∧ o.slots.length ≤ c ∧ (S = none → c = 0)

/-- lengths are lengths -/
def Ob.Fit (o : Ob) : Prop := o.slots.length ≤ 9223372036854775807
def Hp.Fit (h : Hp) : Prop := h.objs.length ≤ 9223372036854775807 ∧ ∀ o ∈ h.objs, o.Fit

theorem IntsR.below {w w' : World} {A : Option Addr} {xs : List Int} (h : IntsR w A xs) (hb : Below w.heap.size w w') : IntsR w' A xs := fun hn => by
  obtain ⟨b, o, e, hlt, hc⟩ := h hn
  exact ⟨b, o, e, Nat.lt_of_lt_of_le hlt hb.size, fun j x hx => (hb.cell (p := ⟨b, o + j, none⟩) hlt).trans (hc j x hx)⟩
theorem ObC.below {w w' : World} {b off : Nat} {S : Option Addr} {c : Nat} {o : Ob} (h : ObC w b off S c o) (hlt : b < w.heap.size) (hb : Below w.heap.size w w') : ObC w' b off S c o :=
  ⟨(hb.cell (p := ⟨b, _, none⟩) hlt).trans h.c0, (hb.cell (p := ⟨b, _, none⟩) hlt).trans h.c1, (hb.cell (p := ⟨b, _, none⟩) hlt).trans h.c2,
    (hb.cell (p := ⟨b, _, none⟩) hlt).trans h.c3, (hb.cell (p := ⟨b, _, none⟩) hlt).trans h.c4, (hb.cell (p := ⟨b, _, none⟩) hlt).trans h.c5⟩
theorem ObsR.below {w w' : World} {A : Option Addr} {os : List Ob} (h : ObsR w A os) (hb : Below w.heap.size w w') : ObsR w' A os := fun hn => by
  obtain ⟨b, o, e, hlt, hc⟩ := h hn
  refine ⟨b, o, e, Nat.lt_of_lt_of_le hlt hb.size, fun i ob hi => ?_⟩
  obtain ⟨S, c, h1, h2, h3⟩ := hc i ob hi
  exact ⟨S, c, h1.below hlt hb, h2.below hb, h3⟩


/-- the ref's object's number, or -1; is there one; is that a value of the heap; may a number be a hash; the next one -/
def refB (n : Nat) (v : Int) : Bool := atB v && decide (atV v < n)
def refV (n : Nat) (v : Int) : Int := if refB n v then atV v else 0
def refI (n : Nat) (v : Int) : Int := if refB n v then atV v else -1
def hasB (n : Nat) (v : Int) : Bool := nB v || refB n v
def haB (v : Int) : Bool := decide (0 ≤ v ∧ v < 1073741824)
def nxI (v : Int) : Int := if haB v then (v * 69069 + 12345) % 1073741824 else 0

theorem refB_no {n : Nat} {v : Int} (h : refB n v = true) : atB v = true ∧ 0 ≤ atV v ∧ atV v < n := by
  unfold refB at h
  simp only [Bool.and_eq_true, decide_eq_true_eq] at h
  exact ⟨h.1, (atV_lt h.1).1, h.2⟩
theorem refI_nonneg {n : Nat} {v : Int} (h : refB n v = true) : refI n v = atV v := by unfold refI; rw [if_pos h]

theorem rref_any (h : Hp) (v : Int) (A : Option Addr) (c : Nat) (w : World) :
    Calls Tryz.prog 32 #[.agg #[.slice A h.objs.length c, .int .i64 h.cap, .int .i64 h.last], .int .i64 v] w fun e w' => e = .returned (.int .i64 (refI h.objs.length v)) ∧ Below w.heap.size w w' := by
  have HB := hid (below_alloc w (.cells #[Value.slice A h.objs.length c, Value.int .i64 h.cap, Value.int .i64 h.last] 24))
  go_enter Tryz.func32, Tryz.ntmps32
  go_wp2_with (go_at_call 60; refine (rat_any _ _).mono ?_; rintro e w' ⟨rfl, rfl⟩)
  all_goals go_ret
  all_goals
    refine ⟨?_, HB.out⟩
    refine congrArg (fun x => Ending.returned (Value.int .i64 x)) ?_
    simp_all [refI, refB]
    try omega
theorem find_any (h : Hp) (v : Int) (A : Option Addr) (c : Nat) (w : World) :
    Calls Tryz.prog 107 #[.agg #[.slice A h.objs.length c, .int .i64 h.cap, .int .i64 h.last], .int .i64 v] w fun e w' => e = .returned (.tuple #[.int .i64 (refV h.objs.length v), .bool (refB h.objs.length v)]) ∧ Below w.heap.size w w' := by
  have HB := hid (below_alloc w (.cells #[Value.slice A h.objs.length c, Value.int .i64 h.cap, Value.int .i64 h.last] 24))
  go_enter Tryz.func107, Tryz.ntmps107
  go_wp2_with (go_at_call 110; refine (at_any _ _).mono ?_; rintro e w' ⟨rfl, rfl⟩)
  all_goals go_ret2
  all_goals
    refine ⟨?_, HB.out⟩
    refine congrArg (fun x => Ending.returned (Value.tuple x)) ?_
    simp_all [refV, refB]
    try omega
theorem rhas_any (h : Hp) (v : Int) (A : Option Addr) (c : Nat) (w : World) :
    Calls Tryz.prog 35 #[.agg #[.slice A h.objs.length c, .int .i64 h.cap, .int .i64 h.last], .int .i64 v] w fun e w' => e = .returned (.bool (hasB h.objs.length v)) ∧ Below w.heap.size w w' := by
  have HB := hid (below_alloc w (.cells #[Value.slice A h.objs.length c, Value.int .i64 h.cap, Value.int .i64 h.last] 24))
  cases hn : nB v
  · cases hr : refB h.objs.length v
    · have e1 : refI h.objs.length v = -1 := by simp [refI, hr]
      have e2 : hasB h.objs.length v = false := by simp [hasB, hr, hn]
      rw [e2]; clear e2
      go_enter Tryz.func35, Tryz.ntmps35
      go_wp2_with (first | (go_at_call 67; refine (rn_any _ _).mono ?_; rintro e w' ⟨rfl, rfl⟩) | (go_at_call 32; refine (rref_any h _ A c _).mono ?_; rintro e w' ⟨rfl, hb⟩))
      go_ret
      exact ⟨rfl, HB.out.trans (hb.mono (by simp))⟩
    · have e1 := refI_nonneg hr
      have e2 : hasB h.objs.length v = true := by simp [hasB, hr, hn]
      have e3 := (refB_no hr).2.1
      rw [e2]; clear e2
      go_enter Tryz.func35, Tryz.ntmps35
      go_wp2_with (first | (go_at_call 67; refine (rn_any _ _).mono ?_; rintro e w' ⟨rfl, rfl⟩) | (go_at_call 32; refine (rref_any h _ A c _).mono ?_; rintro e w' ⟨rfl, hb⟩))
      go_ret
      exact ⟨rfl, HB.out.trans (hb.mono (by simp))⟩
  · have e2 : hasB h.objs.length v = true := by simp [hasB, hn]
    rw [e2]; clear e2
    go_enter Tryz.func35, Tryz.ntmps35
    go_wp2_with (first | (go_at_call 67; refine (rn_any _ _).mono ?_; rintro e w' ⟨rfl, rfl⟩) | (go_at_call 32; refine (rref_any h _ A c _).mono ?_; rintro e w' ⟨rfl, hb⟩))
    go_ret
    exact ⟨rfl, HB.out⟩
theorem isval_any (h : Hp) (v : Int) (A : Option Addr) (c : Nat) (w : World) :
    Calls Tryz.prog 105 #[.agg #[.slice A h.objs.length c, .int .i64 h.cap, .int .i64 h.last], .int .i64 v] w fun e w' => e = .returned (.bool (hasB h.objs.length v)) ∧ Below w.heap.size w w' := by
  have HB := hid (below_alloc w (.cells #[Value.slice A h.objs.length c, Value.int .i64 h.cap, Value.int .i64 h.last] 24))
  cases hn : nB v
  · have e2 : hasB h.objs.length v = refB h.objs.length v := by simp [hasB, hn]
    rw [e2]; clear e2
    go_enter Tryz.func105, Tryz.ntmps105
    go_wp2_with (first | (go_at_call 164; refine (n_any _ _).mono ?_; rintro e w' ⟨rfl, rfl⟩) | (go_at_call 107; refine (find_any h _ A c _).mono ?_; rintro e w' ⟨rfl, hb⟩))
    go_ret
    exact ⟨rfl, HB.out.trans (hb.mono (by simp))⟩
  · have e2 : hasB h.objs.length v = true := by simp [hasB, hn]
    rw [e2]; clear e2
    go_enter Tryz.func105, Tryz.ntmps105
    go_wp2_with (first | (go_at_call 164; refine (n_any _ _).mono ?_; rintro e w' ⟨rfl, rfl⟩) | (go_at_call 107; refine (find_any h _ A c _).mono ?_; rintro e w' ⟨rfl, hb⟩))
    go_ret
    exact ⟨rfl, HB.out⟩
theorem ishash_any (v : Int) (w : World) : Calls Tryz.prog 103 #[.int .i64 v] w fun e w' => e = .returned (.bool (haB v)) ∧ w = w' := by
  by_cases h1 : 0 ≤ v
  · have e : haB v = decide (v ≤ 1073741823) := by unfold haB; rw [decide_eq_decide]; omega
    rw [e]; clear e
    go_enter Tryz.func103, Tryz.ntmps103
    go_wp2
    go_ret; exact ⟨rfl, rfl⟩
  · have e : haB v = false := by simp [haB, h1]
    rw [e]; clear e
    have h1' : v < 0 := by omega
    go_enter Tryz.func103, Tryz.ntmps103
    go_wp2
    go_ret; exact ⟨rfl, rfl⟩
theorem rhash_any (v : Int) (w : World) : Calls Tryz.prog 59 #[.int .i64 v] w fun e w' => e = .returned (.bool (haB v)) ∧ w = w' := by
  by_cases h1 : 0 ≤ v
  · have e : haB v = decide (v < 1073741824) := by unfold haB; rw [decide_eq_decide]; omega
    rw [e]; clear e
    go_enter Tryz.func59, Tryz.ntmps59
    go_wp2
    go_ret; exact ⟨rfl, rfl⟩
  · have e : haB v = false := by simp [haB, h1]
    rw [e]; clear e
    have h1' : v < 0 := by omega
    go_enter Tryz.func59, Tryz.ntmps59
    go_wp2
    go_ret; exact ⟨rfl, rfl⟩
theorem next_any (v : Int) (w : World) : Calls Tryz.prog 234 #[.int .i64 v] w fun e w' => e = .returned (.int .i64 (nxI v)) ∧ w = w' := by
  cases hh : haB v
  · have e : nxI v = 0 := by simp [nxI, hh]
    rw [e]; clear e
    go_enter Tryz.func234, Tryz.ntmps234
    go_wp2_with (go_at_call 103; refine (ishash_any _ _).mono ?_; rintro e w' ⟨rfl, rfl⟩)
    go_ret; exact ⟨rfl, rfl⟩
  · have e : nxI v = bits .and .i64 (v * 69069 + 12345) 1073741823 := by rw [and30]; simp [nxI, hh]
    have hb : 0 ≤ v ∧ v < 1073741824 := by simpa [haB] using hh
    have h1 := hb.1
    have h2 := hb.2
    clear hb
    rw [e]; clear e
    go_enter Tryz.func234, Tryz.ntmps234
    go_wp2_with (go_at_call 103; refine (ishash_any _ _).mono ?_; rintro e w' ⟨rfl, rfl⟩)
    go_ret; exact ⟨rfl, rfl⟩
theorem rnext_any (v : Int) (w : World) : Calls Tryz.prog 172 #[.int .i64 v] w fun e w' => e = .returned (.int .i64 (nxI v)) ∧ w = w' := by
  cases hh : haB v
  · have e : nxI v = 0 := by simp [nxI, hh]
    rw [e]; clear e
    go_enter Tryz.func172, Tryz.ntmps172
    go_wp2_with (go_at_call 59; refine (rhash_any _ _).mono ?_; rintro e w' ⟨rfl, rfl⟩)
    go_ret; exact ⟨rfl, rfl⟩
  · have e : nxI v = (v * 69069 + 12345) % 1073741824 := by simp [nxI, hh]
    have hb : 0 ≤ v ∧ v < 1073741824 := by simpa [haB] using hh
    have h1 := hb.1
    have h2 := hb.2
    clear hb
    rw [e]; clear e
    go_enter Tryz.func172, Tryz.ntmps172
    go_wp2_with (go_at_call 59; refine (rhash_any _ _).mono ?_; rintro e w' ⟨rfl, rfl⟩)
    go_ret; exact ⟨rfl, rfl⟩
end Go.Proofs.YtnilempeldlieaaGreat
namespace Go.Proofs.YtnilempeldlieaaGreat
open Go.RowKit
/-- a heap's box -/
structure BoxH (w : World) (b : Nat) (h : Hp) (A : Option Addr) (c : Nat) : Prop where
  b0 : w.cell? ⟨b, 0, none⟩ = some (.slice A h.objs.length c)
  b1 : w.cell? ⟨b, 1, none⟩ = some (.int .i64 h.cap)
  b2 : w.cell? ⟨b, 2, none⟩ = some (.int .i64 h.last)
theorem BoxH.below {w w' : World} {b : Nat} {h : Hp} {A : Option Addr} {c : Nat} (k : BoxH w b h A c) (hlt : b < w.heap.size) (hb : Below w.heap.size w w') : BoxH w' b h A c :=
  ⟨(hb.cell (p := ⟨b, _, none⟩) hlt).trans k.b0, (hb.cell (p := ⟨b, _, none⟩) hlt).trans k.b1, (hb.cell (p := ⟨b, _, none⟩) hlt).trans k.b2⟩

theorem may1_any (h : Hp) (x : Int) (A : Option Addr) (c b : Nat) (w : World) (hb : BoxH w b h A c) :
    Calls Tryz.prog 104 #[.int .i64 x, .pointer (some ⟨b, 0, none⟩)] w fun e w' => e = .returned (.bool (!hasB h.objs.length x)) ∧ Below w.heap.size w w' := by
  obtain ⟨h0, h1, h2⟩ := hb
  go_enter Tryz.func104, Tryz.ntmps104
  go_wp2_with (first | (go_at_call 105; refine (isval_any h _ A c _).mono ?_; rintro e w' ⟨rfl, hb⟩))
  go_ret
  exact ⟨rfl, hb⟩
def noVal (n : Nat) (x : Int) : Bool := !hasB n x
theorem idx1_any (h : Hp) (A : Option Addr) (c b : Nat) (S : Option Addr) (xs : List Int) (d : Nat) (w : World) (hb : BoxH w b h A c) (hlt : b < w.heap.size) (hs : IntsR w S xs) (hl : xs.length ≤ 9223372036854775807) :
    Calls Tryz.prog 116 #[.slice S xs.length d, .func (.func 104) #[] #[.pointer (some ⟨b, 0, none⟩)]] w fun e w' => ∃ n : Int, e = .returned (.int .i64 n) ∧ (n < 0 ↔ xs.all (hasB h.objs.length) = true) ∧ Below w.heap.size w w' := by
  go_enter Tryz.func116, Tryz.ntmps116
  go_wp2
  go_loopw [8] (fun i wr => ∃ k : Nat, k ≤ xs.length ∧ i = .int .i64 k ∧ (xs.take k).all (hasB h.objs.length) = true ∧ Below w.heap.size w wr) (fun i _ => xs.length - (intOf i).toNat)
  case atStart => exact ⟨0, Nat.zero_le _, rfl, rfl, Below.refl _ _⟩
  case round =>
    obtain ⟨k, hk, rfl, hall, hbw⟩ := hrel
    by_cases hlt2 : k < xs.length
    · obtain ⟨bs, os, rfl, hbs, hcs⟩ := hs (by omega)
      have hcell : wr.cell? ⟨bs, os + k, none⟩ = some (.int .i64 xs[k]) := (hbw.cell (p := ⟨bs, os + k, none⟩) hbs).trans (hcs k _ (List.getElem?_eq_getElem hlt2))
      have hbr := hid (hb.below hlt hbw)
      have htk : (xs.take (k + 1)).all (hasB h.objs.length) = ((xs.take k).all (hasB h.objs.length) && hasB h.objs.length xs[k]) := by
        rw [List.take_succ_eq_append_getElem hlt2, List.all_append]; simp
      have HT := hid htk
      have HA := hid hall
      have HW := hid hbw
      have HS := hid hs
      clear htk hall hbw hcs hb hs
      cases hv : hasB h.objs.length xs[k]
      · go_wp2_with (first | (go_at_call 104; refine (may1_any h _ A c b _ hbr.out).mono ?_; rintro e w' ⟨rfl, hb⟩))
        go_ret
        refine ⟨k, rfl, ?_, HW.out.trans (hb.mono HW.out.size)⟩
        constructor
        · intro hh; omega
        · intro hh
          have := List.all_eq_true.1 hh xs[k] (List.getElem_mem hlt2)
          rw [hv] at this; cases this
      · go_wp2_with (first | (go_at_call 104; refine (may1_any h _ A c b _ hbr.out).mono ?_; rintro e w' ⟨rfl, hb⟩))
        go_roundw
        case rel => exact ⟨k + 1, by omega, by go_num, by rw [HT.out, HA.out, hv]; rfl, HW.out.trans (hb.mono HW.out.size)⟩
        case measure => simp [intOf]; omega
    · have e : k = xs.length := by omega
      subst e
      have HA := hid hall
      have HW := hid hbw
      clear hall hbw
      go_wp2
      go_ret
      refine ⟨-1, rfl, ⟨fun _ => ?_, fun _ => by omega⟩, HW.out⟩
      have := HA.out
      rwa [List.take_length] at this
theorem con1_any (h : Hp) (A : Option Addr) (c b : Nat) (S : Option Addr) (xs : List Int) (d : Nat) (w : World) (hb : BoxH w b h A c) (hlt : b < w.heap.size) (hs : IntsR w S xs) (hl : xs.length ≤ 9223372036854775807) :
    Calls Tryz.prog 70 #[.slice S xs.length d, .func (.func 104) #[] #[.pointer (some ⟨b, 0, none⟩)]] w fun e w' => e = .returned (.bool (!xs.all (hasB h.objs.length))) ∧ Below w.heap.size w w' := by
  have K := hid (idx1_any h A c b S xs d w hb hlt hs hl)
  clear hs hl hlt hb
  go_enter Tryz.func70, Tryz.ntmps70
  go_wp2_with fail
  refine K.out.mono ?_
  rintro e w' ⟨n, rfl, hn, hb⟩
  have e2 : (!xs.all (hasB h.objs.length)) = decide (0 ≤ n) := by
    cases hx : xs.all (hasB h.objs.length) <;> rw [hx] at hn <;> simp at hn ⊢ <;> omega
  have E2 := hid e2
  clear hn e2 K
  go_wp2
  go_ret
  exact ⟨by rw [E2.out]; rfl, hb⟩

/-- has an object nothing but what its kind has, and not too much of that? -/
def kiB (o : Ob) : Bool :=
  if o.kind = 0 then decide ((o.slots.length : Int) ≤ 64) && decide (o.text.toList = []) && (o.bits == 0)
  else if o.kind = 1 then decide (o.slots = []) && decide ((o.text.size : Int) ≤ 64) && (o.bits == 0)
  else if o.kind = 2 then decide (o.slots = []) && decide (o.text.toList = []) && (o.bits == canon o.bits) else false
/-- may it be in a heap of n objects? -/
def obB (n : Nat) (o : Ob) : Bool := refB n o.cls && haB o.hash && kiB o && o.slots.all (hasB n)
def mayB (h : Hp) : Bool := decide (1 ≤ h.cap ∧ h.cap ≤ 256 ∧ (h.objs.length : Int) ≤ h.cap) && haB h.last && h.objs.all (obB h.objs.length)


theorem ret_bool {a b : Bool} (h : a = b) : Ending.returned (.bool a) = .returned (.bool b) := by rw [h]
set_option maxHeartbeats 1000000 in
theorem kind_of (o : Ob) (S : Option Addr) (c : Nat) (w : World) : Calls Tryz.prog 108 #[.agg #[.int .i64 o.cls, .int .i64 o.kind, .slice S o.slots.length c, .string o.text, .int .i64 o.bits, .int .i64 o.hash]] w fun e w' => e = .returned (.bool (kiB o)) ∧ Below w.heap.size w w' := by
  have HB := hid (below_alloc w (.cells #[.int .i64 o.cls, .int .i64 o.kind, .slice S o.slots.length c, .string o.text, .int .i64 o.bits, .int .i64 o.hash] 41))
  by_cases k0 : o.kind = 0
  · have K0 := hid k0
    have k0' : (o.kind == 0) = true := by simpa using k0
    clear k0
    go_enter Tryz.func108, Tryz.ntmps108
    go_wp2
    all_goals go_ret
    all_goals
      refine ⟨ret_bool ?_, below_alloc _ _⟩
      unfold kiB
      rw [if_pos K0.out]
      simp_all
      try omega
  · have K0 := hid k0
    have k0' : (o.kind == 0) = false := by simpa using k0
    clear k0
    by_cases k1 : o.kind = 1
    · have K1 := hid k1
      have k1' : (o.kind == 1) = true := by simpa using k1
      clear k1
      go_enter Tryz.func108, Tryz.ntmps108
      go_wp2
      all_goals go_ret
      all_goals
        refine ⟨ret_bool ?_, below_alloc _ _⟩
        unfold kiB
        rw [if_neg K0.out, if_pos K1.out]
        simp_all
        try omega
    · have K1 := hid k1
      have k1' : (o.kind == 1) = false := by simpa using k1
      clear k1
      by_cases k2 : o.kind = 2
      · have K2 := hid k2
        have k2' : (o.kind == 2) = true := by simpa using k2
        clear k2
        by_cases e1 : o.slots = []
        · have e1' : ((o.slots.length : Int) == 0) = true := by rw [e1]; rfl
          have E1 := hid e1
          clear e1
          by_cases e2 : o.text.toList = []
          · have e2' : o.text.toList.isEmpty = true := by rw [e2]; rfl
            have E2 := hid e2
            clear e2
            go_enter Tryz.func108, Tryz.ntmps108
            go_wp2
            go_quiet ((go_at_call 166; exact Calls.quiet_of_same ((canon_any _ _).mono fun _ _ ⟨he, hw⟩ => ⟨he, hw.symm⟩)))
            go_wp2
            go_ret
            refine ⟨ret_bool ?_, (below_alloc _ _).trans ⟨rfl, rfl, rfl, Nat.le_refl _, fun _ _ => rfl⟩⟩
            unfold kiB
            rw [if_neg K0.out, if_neg K1.out, if_pos K2.out]
            simp [E1.out, E2.out]
          · have e2' : o.text.toList.isEmpty = false := by simpa using e2
            have E2 := hid e2
            clear e2
            go_enter Tryz.func108, Tryz.ntmps108
            go_wp2
            go_quiet ((go_at_call 166; exact Calls.quiet_of_same ((canon_any _ _).mono fun _ _ ⟨he, hw⟩ => ⟨he, hw.symm⟩)))
            go_wp2
            go_ret
            refine ⟨ret_bool ?_, (below_alloc _ _).trans ⟨rfl, rfl, rfl, Nat.le_refl _, fun _ _ => rfl⟩⟩
            unfold kiB
            rw [if_neg K0.out, if_neg K1.out, if_pos K2.out]
            simp [E1.out, E2.out]
        · have e1' : ((o.slots.length : Int) == 0) = false := by simpa using e1
          have E1 := hid e1
          clear e1
          · go_enter Tryz.func108, Tryz.ntmps108
            go_wp2
            go_quiet ((go_at_call 166; exact Calls.quiet_of_same ((canon_any _ _).mono fun _ _ ⟨he, hw⟩ => ⟨he, hw.symm⟩)))
            go_wp2
            go_ret
            refine ⟨ret_bool ?_, (below_alloc _ _).trans ⟨rfl, rfl, rfl, Nat.le_refl _, fun _ _ => rfl⟩⟩
            unfold kiB
            rw [if_neg K0.out, if_neg K1.out, if_pos K2.out]
            simp [E1.out]
      · have K2 := hid k2
        have k2' : (o.kind == 2) = false := by simpa using k2
        clear k2
        go_enter Tryz.func108, Tryz.ntmps108
        go_wp2
        all_goals go_ret
        refine ⟨ret_bool ?_, HB.out⟩
        unfold kiB
        rw [if_neg K0.out, if_neg K1.out, if_neg K2.out]

theorem IntsR.on {w w' : World} {A : Option Addr} {xs : List Int} (h : IntsR w A xs) (hb : Below w.heap.size w w') : Hid (IntsR w' A xs) := h.below hb
set_option maxHeartbeats 1000000 in
theorem may2_any (h : Hp) (o : Ob) (S : Option Addr) (d : Nat) (A : Option Addr) (c b bf : Nat) (w : World) (hb : BoxH w b h A c) (hlt : b < w.heap.size) (hf : w.cell? ⟨bf, 0, none⟩ = some (.func (.func 104) #[] #[.pointer (some ⟨b, 0, none⟩)])) (hltf : bf < w.heap.size)
    (hs : IntsR w S o.slots) (hl : o.slots.length ≤ 9223372036854775807) :
    Calls Tryz.prog 106 #[.agg #[.int .i64 o.cls, .int .i64 o.kind, .slice S o.slots.length d, .string o.text, .int .i64 o.bits, .int .i64 o.hash], .pointer (some ⟨b, 0, none⟩), .pointer (some ⟨bf, 0, none⟩)] w fun e w' => e = .returned (.bool (!obB h.objs.length o)) ∧ Below w.heap.size w w' := by
  have HB0 := hid (below_alloc w (.cells #[.int .i64 o.cls, .int .i64 o.kind, .slice S o.slots.length d, .string o.text, .int .i64 o.bits, .int .i64 o.hash] 41))
  have HS := hid hs
  have HX := hid hb
  have hlt1 : b < w.heap.size + 1 := by omega
  have hltf1 : bf < w.heap.size + 1 := by omega
  obtain ⟨h0, h1, h2⟩ := hb
  clear hs
  go_enter Tryz.func106, Tryz.ntmps106
  go_wp2_with fail
  refine (find_any h _ A c _).mono ?_
  rintro e w1 ⟨rfl, hb1⟩
  have HB1 := hid (HB0.out.trans (hb1.mono (by simp)))
  obtain ⟨hc1, hf1⟩ := bcell hb1
  have hz1 : w.heap.size + 1 ≤ w1.heap.size := by have := hb1.size; simp at this; omega
  clear hb1
  cases r0 : refB h.objs.length o.cls
  · go_wp2
    go_ret
    exact ⟨ret_bool (by unfold obB; rw [r0]; rfl), HB1.out⟩
  · cases r1 : haB o.hash
    · go_wp2_with (first | (go_at_call 103; refine (ishash_any _ _).mono ?_; rintro e w' ⟨rfl, rfl⟩))
      go_ret
      exact ⟨ret_bool (by unfold obB; rw [r0, r1]; rfl), HB1.out⟩
    · go_wp2_with (first | (go_at_call 103; refine (ishash_any _ _).mono ?_; rintro e w' ⟨rfl, rfl⟩))
      refine (kind_of o S d _).mono ?_
      rintro e w2 ⟨rfl, hb2⟩
      have HB2 := hid (HB1.out.trans (hb2.mono HB1.out.size))
      have hz2 : w.heap.size + 1 ≤ w2.heap.size := by have := hb2.size; omega
      have hlt2 : b < w1.heap.size := by omega
      have hltf2 : bf < w1.heap.size := by omega
      have hlt2' : w.heap.size < w1.heap.size := by omega
      obtain ⟨hc2, hf2⟩ := bcell hb2
      clear hb2
      cases r2 : kiB o
      · go_wp2
        go_ret
        exact ⟨ret_bool (by unfold obB; rw [r0, r1, r2]; rfl), HB2.out⟩
      · go_wp2_with fail
        refine (con1_any h A c b S o.slots d _ (HX.out.below hlt HB2.out) (by omega) (HS.out.below HB2.out) hl).mono ?_
        rintro e w3 ⟨rfl, hb3⟩
        have HB3 := hid (HB2.out.trans (hb3.mono HB2.out.size))
        go_wp2
        go_ret
        exact ⟨ret_bool (by unfold obB; rw [r0, r1, r2]; rfl), HB3.out⟩
end Go.Proofs.YtnilempeldlieaaGreat
namespace Go.Proofs.YtnilempeldlieaaGreat
open Go.RowKit
theorem int_info : (Tryz.prog.info? 3).map (fun i => (i.zero, i.size, i.bytes)) = some (some (.int .i64 0), 1, 8) := by kernel_rfl
theorem obj_info : (Tryz.prog.info? 41).map (fun i => (i.zero, i.size, i.bytes)) = some (some (.agg #[.int .i64 0, .int .i64 0, .slice none 0 0, .string ⟨#[]⟩, .int .i64 0, .int .i64 0]), 6, 72) := by kernel_rfl

/-- an object, and where its slots lie -/
structure LO where
  o : Ob
  S : Option Addr
  c : Nat
def LO.cells (l : LO) : List Value := [.int .i64 l.o.cls, .int .i64 l.o.kind, .slice l.S l.o.slots.length l.c, .string l.o.text, .int .i64 l.o.bits, .int .i64 l.o.hash]
def rowOf (ls : List LO) : List Value := ls.flatMap LO.cells
theorem rowOf_length (ls : List LO) : (rowOf ls).length = ls.length * 6 := by
  unfold rowOf
  induction ls with
  | nil => rfl
  | cons l ls ih => rw [List.flatMap_cons, List.length_append, ih]; simp [LO.cells]; omega
theorem rowOf_get (ls : List LO) (i j : Nat) (l : LO) (hi : ls[i]? = some l) (hj : j < 6) : (rowOf ls)[i * 6 + j]? = l.cells[j]? := by
  unfold rowOf
  induction ls generalizing i with
  | nil => simp at hi
  | cons m ls ih =>
    have hl : m.cells.length = 6 := rfl
    cases i with
    | zero =>
      obtain rfl : m = l := by simpa using hi
      rw [List.flatMap_cons, List.getElem?_append_left (by omega)]; simp
    | succ i =>
      rw [List.flatMap_cons, List.getElem?_append_right (by omega), hl]
      rw [show (i + 1) * 6 + j - 6 = i * 6 + j by omega]
      exact ih i (by simpa using hi)
theorem rowOf_one (ls : List LO) : ∀ u ∈ rowOf ls, u.oneCell' = true := by
  intro u hu
  obtain ⟨l, _, hl⟩ := List.mem_flatMap.1 hu
  simp [LO.cells] at hl
  rcases hl with rfl | rfl | rfl | rfl | rfl | rfl <;> rfl
theorem rowOf_append (a b : List LO) : rowOf (a ++ b) = rowOf a ++ rowOf b := by unfold rowOf; rw [List.flatMap_append]

/-- a slice of objects that is laid as ls says -/
structure LaidR (w : World) (A : Option Addr) (ls : List LO) : Prop where
  row : 0 < ls.length → ∃ b off, A = some ⟨b, off, none⟩ ∧ b < w.heap.size ∧ ∀ j u, (rowOf ls)[j]? = some u → w.cell? ⟨b, off + j, none⟩ = some u
  ints : ∀ l ∈ ls, IntsR w l.S l.o.slots
  nils : ∀ l ∈ ls, l.S = none → l.c = 0
theorem pick_list {P : Nat → LO → Prop} : ∀ (os : List Ob) (n : Nat), (∀ i o, os[i]? = some o → ∃ l : LO, l.o = o ∧ P (n + i) l) → ∃ ls : List LO, ls.map (·.o) = os ∧ ∀ i l, ls[i]? = some l → P (n + i) l
  | [], n, _ => ⟨[], rfl, fun i l h => by simp at h⟩
  | o :: os, n, h => by
    obtain ⟨l, hl, hp⟩ := h 0 o rfl
    obtain ⟨ls, h1, h2⟩ := pick_list os (n + 1) (fun i o' ho => by
      obtain ⟨m, hm, hq⟩ := h (i + 1) o' (by simpa using ho)
      exact ⟨m, hm, by rw [show n + 1 + i = n + (i + 1) by omega]; exact hq⟩)
    refine ⟨l :: ls, by simp [hl, h1], fun i m hm => ?_⟩
    cases i with
    | zero => obtain rfl : l = m := by simpa using hm
              exact hp
    | succ i => rw [show n + (i + 1) = n + 1 + i by omega]; exact h2 i m (by simpa using hm)
theorem ObsR.laid {w : World} {A : Option Addr} {os : List Ob} (h : ObsR w A os) : ∃ ls, ls.map (·.o) = os ∧ LaidR w A ls := by
  by_cases hn : 0 < os.length
  · obtain ⟨b, off, e, hlt, hc⟩ := h hn
    obtain ⟨ls, h1, h2⟩ := pick_list (P := fun i l => ObC w b (off + i * 6) l.S l.c l.o ∧ IntsR w l.S l.o.slots ∧ (l.S = none → l.c = 0)) os 0 (fun i o ho => by
      obtain ⟨S, c, k1, k2, _, k3⟩ := hc i o ho
      exact ⟨⟨o, S, c⟩, rfl, by rw [Nat.zero_add]; exact k1, k2, k3⟩)
    refine ⟨ls, h1, fun _ => ⟨b, off, e, hlt, fun j u hu => ?_⟩, fun l hl => ?_, fun l hl => ?_⟩
    · have hj : j < ls.length * 6 := by
        have := (List.getElem?_eq_some_iff.1 hu).1
        rwa [rowOf_length] at this
      have hi : j / 6 < ls.length := by omega
      have e1 := rowOf_get ls (j / 6) (j % 6) ls[j / 6] (List.getElem?_eq_getElem hi) (by omega)
      rw [show j / 6 * 6 + j % 6 = j by omega, hu] at e1
      obtain ⟨⟨c0, c1, c2, c3, c4, c5⟩, _⟩ := h2 (j / 6) _ (List.getElem?_eq_getElem hi)
      rw [Nat.zero_add] at c0 c1 c2 c3 c4 c5
      have hr : j % 6 = 0 ∨ j % 6 = 1 ∨ j % 6 = 2 ∨ j % 6 = 3 ∨ j % 6 = 4 ∨ j % 6 = 5 := by omega
      have ej : j = j / 6 * 6 + j % 6 := by omega
      generalize j / 6 = q at *
      rcases hr with r | r | r | r | r | r <;> rw [r] at e1 ej <;> simp [LO.cells] at e1 <;> subst e1 <;> rw [ej] <;> simp only [← Nat.add_assoc, Nat.add_zero] <;> assumption
    · obtain ⟨i, hi, rfl⟩ := List.getElem_of_mem hl
      exact (h2 i _ (List.getElem?_eq_getElem hi)).2.1
    · obtain ⟨i, hi, rfl⟩ := List.getElem_of_mem hl
      exact (h2 i _ (List.getElem?_eq_getElem hi)).2.2
  · have : os = [] := List.eq_nil_of_length_eq_zero (by omega)
    subst this
    exact ⟨[], rfl, fun h => by simp at h, fun l hl => by simp at hl, fun l hl => by simp at hl⟩
theorem LaidR.obs {w : World} {A : Option Addr} {ls : List LO} (h : LaidR w A ls) (hc : ∀ l ∈ ls, l.o.slots.length ≤ l.c) : ObsR w A (ls.map (·.o)) := fun hn => by
  obtain ⟨b, off, e, hlt, hcell⟩ := h.row (by simpa using hn)
  refine ⟨b, off, e, hlt, fun i o ho => ?_⟩
  have hi : i < ls.length := by have := (List.getElem?_eq_some_iff.1 ho).1; simpa using this
  have hl : ls[i]? = some ls[i] := List.getElem?_eq_getElem hi
  obtain rfl : ls[i].o = o := by simpa [hi] using ho
  have g := fun j hj u hu => hcell (i * 6 + j) u ((rowOf_get ls i j _ hl hj).trans hu)
  refine ⟨ls[i].S, ls[i].c, ⟨g 0 (by omega) _ rfl, ?_, ?_, ?_, ?_, ?_⟩, h.ints _ (List.getElem_mem hi), hc _ (List.getElem_mem hi), h.nils _ (List.getElem_mem hi)⟩
  · rw [Nat.add_assoc]; exact g 1 (by omega) _ rfl
  · rw [Nat.add_assoc]; exact g 2 (by omega) _ rfl
  · rw [Nat.add_assoc]; exact g 3 (by omega) _ rfl
  · rw [Nat.add_assoc]; exact g 4 (by omega) _ rfl
  · rw [Nat.add_assoc]; exact g 5 (by omega) _ rfl

set_option maxHeartbeats 1000000 in
theorem clone1_any (S : Option Addr) (xs : List Int) (d : Nat) (w : World) (hs : IntsR w S xs) (hl : xs.length ≤ 17592186044416) :
    Calls Tryz.prog 72 #[.slice S xs.length d] w fun e w' => Fresh w w' 3 1 xs.length (xs.map (Value.int .i64)) e := by
  obtain ⟨i0, hi, hz0, hz1, hz2⟩ := info_parts int_info
  cases S with
  | none =>
    have hx : xs = [] := by
      cases xs with
      | nil => rfl
      | cons x t => obtain ⟨b, o, e, _⟩ := hs (by simp); cases e
    subst hx
    have q22 : ∀ (w : World) (a : Option Addr) (n c n' c' : Nat), (binOp .eql 34 (.slice a n c) (.slice none n' c')).run Tryz.prog w = .ok (.bool a.isNone) w := fun w a n c n' c' => Lib.run_eql_slice_nil w _ _ a n c n' c' Tryz.underlying34
    clear hs hi hz0 hz1 hz2
    go_enter Tryz.func72, Tryz.ntmps72
    go_wp2
    go_ret
    exact ⟨none, 0, rfl, World.ownsRow_nil _ _ _ _, Below.refl _ _⟩
  | some a =>
    have q22 : ∀ (w : World) (a : Option Addr) (n c n' c' : Nat), (binOp .eql 34 (.slice a n c) (.slice none n' c')).run Tryz.prog w = .ok (.bool a.isNone) w := fun w a n c n' c' => Lib.run_eql_slice_nil w _ _ a n c n' c' Tryz.underlying34
    have HS := hid hs
    clear hs
    go_enter Tryz.func72, Tryz.ntmps72
    go_wp2_with (at_builtin; refine wpList_append_own _ rfl _ _ 34 rfl w.heap.size 3 i0 (.int .i64 0) 1 8 Tryz.underlying34 hi hz0 hz1 hz2 rfl (by decide) _ _ _ rfl (World.ownsRow_made w #[] 0 (Nat.le_refl _) (Nat.zero_le _) rfl) a xs.length d (xs.map (Value.int .i64)) rfl ?qc1 ?qc2 ?qc3 ?qc4 ?qc5 ?qc6 ?_)
    case qc1 => simp
    case qc2 =>
      intro j u hj
      have hjn : j < xs.length := by have := (List.getElem?_eq_some_iff.1 hj).1; simpa using this
      obtain ⟨b, o, e, hlt, hc⟩ := HS.out (by omega)
      cases e
      have := hc j xs[j] (List.getElem?_eq_getElem hjn)
      rw [List.getElem?_map, List.getElem?_eq_getElem hjn] at hj
      cases hj
      rw [Addr.add_lit]
      exact cell_old this
    case qc3 => intro u hu; obtain ⟨x, _, rfl⟩ := List.mem_map.1 hu; rfl
    case qc4 => unfold maxLen; omega
    case qc5 => omega
    case qc6 => simp
    intro v' w1 hown hgrow hnil
    go_wp2
    go_ret
    obtain ⟨A, c, rfl⟩ := own_form hown
    refine ⟨A, c, by simp, by simpa using hown, ?_⟩
    exact ((Below.refl _ w).alloc (Nat.le_refl _) _).grown hgrow (by simp) (by intro k hk; simp [Value.ownBlock] at hk; omega)
set_option maxHeartbeats 1000000 in
theorem clone2_any (A : Option Addr) (ls : List LO) (d : Nat) (w : World) (hs : LaidR w A ls) (hl : ls.length ≤ 256) :
    Calls Tryz.prog 71 #[.slice A ls.length d] w fun e w' => Fresh w w' 41 6 ls.length (rowOf ls) e := by
  obtain ⟨i0, hi, hz0, hz1, hz2⟩ := info_parts obj_info
  have q22 : ∀ (w : World) (a : Option Addr) (n c n' c' : Nat), (binOp .eql 22 (.slice a n c) (.slice none n' c')).run Tryz.prog w = .ok (.bool a.isNone) w := fun w a n c n' c' => Lib.run_eql_slice_nil w _ _ a n c n' c' Tryz.underlying22
  cases A with
  | none =>
    have hx : ls = [] := by
      cases ls with
      | nil => rfl
      | cons x t => obtain ⟨b, o, e, _⟩ := hs.row (by simp); cases e
    subst hx
    clear hs hi hz0 hz1 hz2
    go_enter Tryz.func71, Tryz.ntmps71
    go_wp2
    go_ret
    exact ⟨none, 0, rfl, World.ownsRow_nil _ _ _ _, Below.refl _ _⟩
  | some a =>
    have HS := hid hs
    clear hs
    go_enter Tryz.func71, Tryz.ntmps71
    go_wp2_with (at_builtin; refine wpList_append_own _ rfl _ _ 22 rfl w.heap.size 41 i0 (.agg #[.int .i64 0, .int .i64 0, .slice none 0 0, .string ⟨#[]⟩, .int .i64 0, .int .i64 0]) 6 72 Tryz.underlying22 hi hz0 hz1 hz2 rfl (by decide) _ _ _ rfl (World.ownsRow_made w #[] 0 (Nat.le_refl _) (Nat.zero_le _) rfl) a ls.length d (rowOf ls) rfl ?qc1 ?qc2 ?qc3 ?qc4 ?qc5 ?qc6 ?_)
    case qc1 => exact rowOf_length ls
    case qc2 =>
      intro j u hj
      have hjn : j < ls.length * 6 := by have := (List.getElem?_eq_some_iff.1 hj).1; rwa [rowOf_length] at this
      obtain ⟨b, o, e, hlt, hc⟩ := HS.out.row (by omega)
      cases e
      rw [Addr.add_lit]
      exact cell_old (hc j u hj)
    case qc3 => exact rowOf_one ls
    case qc4 => unfold maxLen; omega
    case qc5 => omega
    case qc6 => simp
    intro v' w1 hown hgrow hnil
    go_wp2
    go_ret
    obtain ⟨A, c, rfl⟩ := own_form hown
    refine ⟨A, c, by simp, by simpa using hown, ?_⟩
    exact ((Below.refl _ w).alloc (Nat.le_refl _) _).grown hgrow (by simp) (by intro k hk; simp [Value.ownBlock] at hk; omega)
end Go.Proofs.YtnilempeldlieaaGreat
