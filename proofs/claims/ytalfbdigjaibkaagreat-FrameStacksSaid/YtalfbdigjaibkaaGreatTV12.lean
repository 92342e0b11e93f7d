/- A list copied into slots of an object of the call's own; the heap behind New, in plain mathematics. -/
import Derived.Test.YtalfbdigjaibkaaGreatTR12
import Derived.Test.YtalfbdigjaibkaaGreatUN12
import Derived.Test.YtalfbdigjaibkaaGreatF
import Derived.Laws.CopyOwn
namespace Go.Proofs.YtalfbdigjaibkaaGreat
open Go.RowKit
set_option maxRecDepth 100000
/-- cells stored one behind the other; numbers set one behind the other -/
def setsC12 (w : World) (g : Nat) : Nat → List Value → World
  | _, [] => w
  | off, v :: vs => setsC12 (w.setCell ⟨g, off, none⟩ v) g (off + 1) vs
theorem setRow_sets12 (g : Nat) (t : TypeId) (vs : List Value) : ∀ (off : Nat) (w : World) (cur : Array Value), w.heap[g]? = some (.cells cur t (0, 0)) → off + vs.length ≤ cur.size →
    w.setRow g (cur.toList.take off ++ (vs ++ cur.toList.drop (off + vs.length))).toArray = setsC12 w g off vs := by
  induction vs with
  | nil =>
    intro off w cur hg hl
    simp only [List.nil_append, List.length_nil, Nat.add_zero, List.take_append_drop, Array.toArray_toList]
    exact setRow_self w g cur t (0, 0) hg
  | cons v vs ih =>
    intro off w cur hg hl
    simp only [List.length_cons] at hl
    show _ = setsC12 (w.setCell ⟨g, off, none⟩ v) g (off + 1) vs
    have e := setCell_eq_setRow w g off cur t (0, 0) v hg
    have hg2 : (w.setCell ⟨g, off, none⟩ v).heap[g]? = some (.cells (cur.setIfInBounds off v) t (0, 0)) := by rw [e]; exact setRow_heap w g cur _ t _ hg
    rw [← ih (off + 1) _ _ hg2 (by simp; omega), e, setRow_setRow]
    congr 2
    have h := list_seg_step cur.toList off v vs (by simp; omega)
    rw [Array.toList_setIfInBounds, ← List.append_assoc, ← List.append_assoc, h]
    rfl
theorem own_sets12 {base : Nat} {A : Option Addr} {c : Nat} {ls : List LO} {i g : Nat} {l : LO} (hl : ls[i]? = some l) (hS : l.S = some ⟨g, 0, none⟩) (ys : List Int) : ∀ (off : Nat) (w : World) (xs : List Int), OwnH w base A c (upd12 ls i l xs) →
    OwnH (setsC12 w g off (ys.map (.int .i64))) base A c (upd12 ls i l (setsL12 off ys xs)) ∧ w.grownBy (setsC12 w g off (ys.map (.int .i64))) (some g) := by
  induction ys with
  | nil => intro off w xs h; exact ⟨h, World.grownBy.refl _ _⟩
  | cons y ys ih =>
    intro off w xs h
    have h1 := h.slot (j := off) (x := y) (upd_get12 hl xs) hS
    rw [upd_set12] at h1
    obtain ⟨h2, h3⟩ := ih (off + 1) _ _ h1
    exact ⟨h2, (grown_set12 w ⟨g, off, none⟩ (.int .i64 y)).trans h3⟩
theorem run_copy12 {w : World} (g off dCap : Nat) (SA : Option Addr) (sCap : Nat) (xs : List Int) (hx : xs.length ≤ 16) (cur : Array Value) (hg : w.heap[g]? = some (.cells cur 3 (0, 0))) (hi : IntsR w SA xs) (hfit : off + 16 ≤ cur.size) :
    (Builtin.copy_ #[30, 30] 3 #[.slice (some ⟨g, off, none⟩) 16 dCap, .slice SA xs.length sCap]).run Tryz.prog w = .ok (.int .i64 xs.length) (setsC12 w g off (xs.map (.int .i64))) := by
  by_cases h0 : xs.length = 0
  · obtain rfl : xs = [] := List.eq_nil_of_length_eq_zero h0
    exact run_copy_none (P := Tryz.prog) w 30 30 3 3 _ _ _ _ _ _ Tryz.underlying30 (by kernel_rfl) (by simp)
  · obtain ⟨b, oo, rfl, hlt, hc⟩ := hi (by omega)
    have e := setRow_sets12 g 3 (xs.map (.int .i64)) off w cur hg (by rw [List.length_map]; omega)
    rw [← e]
    have r := run_copy_row (P := Tryz.prog) w 30 30 3 3 g off 16 dCap ⟨b, oo, none⟩ xs.length sCap cur 3 (xs.map (.int .i64)) Tryz.underlying30 (by kernel_rfl) hg (by rw [List.length_map]; exact (Nat.min_eq_left hx).symm) (by
      intro j v hv
      rw [List.getElem?_map] at hv
      cases hx2 : xs[j]? with
      | none => rw [hx2] at hv; cases hv
      | some x =>
        rw [hx2] at hv
        cases hv
        rw [Addr.add_lit]
        exact hc j x hx2) (by rw [List.length_map]; omega) (by
      intro v hv
      obtain ⟨x, -, rfl⟩ := List.mem_map.1 hv
      rfl)
    rw [r, List.length_map, List.append_assoc]
    rfl
theorem pno_any12 (h : Hp) (x : Int) (A : Option Addr) (c b : Nat) (w : World) (hb : BoxH w b h A c) :
    Calls Tryz.prog 55 #[.int .i64 x, .pointer (some ⟨b, 0, none⟩)] w fun e w' => e = .returned (.bool (!hasB h.objs.length x)) ∧ Below w.heap.size w w' := by
  obtain ⟨h0, h1, h2⟩ := hb
  go_enter Tryz.func55, Tryz.ntmps55
  go_wp2_with (first | (go_at_call 48; refine (pisval_any12 h _ A c _).mono ?_; rintro e w' ⟨rfl, hb⟩))
  go_ret
  exact ⟨rfl, hb⟩
theorem pidx_any12 (h : Hp) (A : Option Addr) (c b : Nat) (S : Option Addr) (xs : List Int) (d : Nat) (w : World) (hb : BoxH w b h A c) (hlt : b < w.heap.size) (hs : IntsR w S xs) (hl : xs.length ≤ 9223372036854775807) :
    Calls Tryz.prog 87 #[.slice S xs.length d, .func (.func 55) #[] #[.pointer (some ⟨b, 0, none⟩)]] w fun e w' => ∃ n : Int, e = .returned (.int .i64 n) ∧ (n < 0 ↔ xs.all (hasB h.objs.length) = true) ∧ Below w.heap.size w w' := by
  go_enter Tryz.func87, Tryz.ntmps87
  go_wp2
  go_loopw [8] (fun i wr => ∃ k : Nat, k ≤ xs.length ∧ i = .int .i64 k ∧ (xs.take k).all (hasB h.objs.length) = true ∧ Below w.heap.size w wr) (fun i _ => xs.length - (intOf i).toNat)
  case atStart => exact ⟨0, Nat.zero_le _, rfl, rfl, Below.refl _ _⟩
  case round =>
    obtain ⟨k, hk, rfl, hall, hbw⟩ := hrel
    by_cases hlt2 : k < xs.length
    · obtain ⟨bs, os, rfl, hbs, hcs⟩ := hs (by omega)
      have hcell : wr.cell? ⟨bs, os + k, none⟩ = some (.int .i64 xs[k]) := (hbw.cell (p := ⟨bs, os + k, none⟩) hbs).trans (hcs k _ (List.getElem?_eq_getElem hlt2))
      have hbr := hid (hb.below hlt hbw)
      have htk : (xs.take (k + 1)).all (hasB h.objs.length) = ((xs.take k).all (hasB h.objs.length) && hasB h.objs.length xs[k]) := by
        rw [List.take_succ_eq_append_getElem hlt2, List.all_append]; simp
      have HT := hid htk
      have HA := hid hall
      have HW := hid hbw
      have HS := hid hs
      clear htk hall hbw hcs hb hs
      cases hv : hasB h.objs.length xs[k]
      · go_wp2_with (first | (go_at_call 55; refine (pno_any12 h _ A c b _ hbr.out).mono ?_; rintro e w' ⟨rfl, hb⟩))
        go_ret
        refine ⟨k, rfl, ?_, HW.out.trans (hb.mono HW.out.size)⟩
        constructor
        · intro hh; omega
        · intro hh
          have := List.all_eq_true.1 hh xs[k] (List.getElem_mem hlt2)
          rw [hv] at this; cases this
      · go_wp2_with (first | (go_at_call 55; refine (pno_any12 h _ A c b _ hbr.out).mono ?_; rintro e w' ⟨rfl, hb⟩))
        go_roundw
        case rel => exact ⟨k + 1, by omega, by go_num, by rw [HT.out, HA.out, hv]; rfl, HW.out.trans (hb.mono HW.out.size)⟩
        case measure => simp [intOf]; omega
    · have e : k = xs.length := by omega
      subst e
      have HA := hid hall
      have HW := hid hbw
      clear hall hbw
      go_wp2
      go_ret
      refine ⟨-1, rfl, ⟨fun _ => ?_, fun _ => by omega⟩, HW.out⟩
      have := HA.out
      rwa [List.take_length] at this
theorem pcon_any12 (h : Hp) (A : Option Addr) (c b : Nat) (S : Option Addr) (xs : List Int) (d : Nat) (w : World) (hb : BoxH w b h A c) (hlt : b < w.heap.size) (hs : IntsR w S xs) (hl : xs.length ≤ 9223372036854775807) :
    Calls Tryz.prog 57 #[.slice S xs.length d, .func (.func 55) #[] #[.pointer (some ⟨b, 0, none⟩)]] w fun e w' => e = .returned (.bool (!xs.all (hasB h.objs.length))) ∧ Below w.heap.size w w' := by
  have K := hid (pidx_any12 h A c b S xs d w hb hlt hs hl)
  clear hs hl hlt hb
  go_enter Tryz.func57, Tryz.ntmps57
  go_wp2_with fail
  refine K.out.mono ?_
  rintro e w' ⟨n, rfl, hn, hb⟩
  have e2 : (!xs.all (hasB h.objs.length)) = decide (0 ≤ n) := by
    cases hx : xs.all (hasB h.objs.length) <;> rw [hx] at hn <;> simp at hn ⊢ <;> omega
  have E2 := hid e2
  clear hn e2 K
  go_wp2
  go_ret
  exact ⟨by rw [E2.out]; rfl, hb⟩

end Go.Proofs.YtalfbdigjaibkaaGreat
