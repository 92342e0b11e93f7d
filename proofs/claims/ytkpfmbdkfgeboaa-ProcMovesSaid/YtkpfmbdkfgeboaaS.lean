/- The document's words Same, One, Small: of what reads as the same, that it is the same; of a heap, whether it is small. -/
import Derived.Test.YtkpfmbdkfgeboaaK
namespace Go.Proofs.Ytkpfmbdkfgeboaa
open Go.RowKit
/-- an object's box -/
structure BoxO (w : World) (b : Nat) (o : Ob) (S : Option Addr) (d : Nat) : Prop where
  b0 : w.cell? ⟨b, 0, none⟩ = some (.int .i64 o.cls)
  b1 : w.cell? ⟨b, 1, none⟩ = some (.int .i64 o.kind)
  b2 : w.cell? ⟨b, 2, none⟩ = some (.slice S o.slots.length d)
  b3 : w.cell? ⟨b, 3, none⟩ = some (.string o.text)
  b4 : w.cell? ⟨b, 4, none⟩ = some (.int .i64 o.bits)
  b5 : w.cell? ⟨b, 5, none⟩ = some (.int .i64 o.hash)
theorem BoxO.later {w w' : World} {b : Nat} {o : Ob} {S : Option Addr} {d : Nat} (k : BoxO w b o S d) (hb : Below w.heap.size w w') : BoxO w' b o S d :=
  ⟨cell_later hb k.b0, cell_later hb k.b1, cell_later hb k.b2, cell_later hb k.b3, cell_later hb k.b4, cell_later hb k.b5⟩
theorem BoxH.later {w w' : World} {b : Nat} {h : Hp} {A : Option Addr} {c : Nat} (k : BoxH w b h A c) (hb : Below w.heap.size w w') : BoxH w' b h A c :=
  ⟨cell_later hb k.b0, cell_later hb k.b1, cell_later hb k.b2⟩
theorem BoxO.new (w : World) (o : Ob) (S : Option Addr) (d : Nat) : BoxO (w.alloc (.cells #[.int .i64 o.cls, .int .i64 o.kind, .slice S o.slots.length d, .string o.text, .int .i64 o.bits, .int .i64 o.hash] 43)) w.heap.size o S d :=
  ⟨by go_simp, by go_simp, by go_simp, by go_simp, by go_simp, by go_simp⟩
theorem below_drewN (w : World) (n : Nat) : Below w.heap.size w (w.drewN n) := ⟨rfl, rfl, rfl, Nat.le_refl _, fun _ _ => rfl⟩
theorem below_go {B : Nat} {w0 w w' : World} (h : Below B w0 w) (hB : B ≤ w.heap.size) (hb : Below w.heap.size w w') : Below B w0 w' := h.trans (hb.mono hB)

set_option maxRecDepth 100000 in
set_option maxHeartbeats 4000000 in
theorem one_same (o : Ob) (S T : Option Addr) (d t : Nat) (w : World) (hs : IntsR w S o.slots) (ht : IntsR w T o.slots) (hl : o.slots.length ≤ 9223372036854775807) :
    Calls Try.prog 33 #[.agg #[.int .i64 o.cls, .int .i64 o.kind, .slice S o.slots.length d, .string o.text, .int .i64 o.bits, .int .i64 o.hash], .agg #[.int .i64 o.cls, .int .i64 o.kind, .slice T o.slots.length t, .string o.text, .int .i64 o.bits, .int .i64 o.hash]] w fun e w' => e = .returned (.bool true) ∧ Below w.heap.size w w' := by
  have HB0 := hid (below_alloc2 w (.cells #[.int .i64 o.cls, .int .i64 o.kind, .slice S o.slots.length d, .string o.text, .int .i64 o.bits, .int .i64 o.hash] 43) (.cells #[.int .i64 o.cls, .int .i64 o.kind, .slice T o.slots.length t, .string o.text, .int .i64 o.bits, .int .i64 o.hash] 43))
  have HX := hid ((BoxO.new w o S d).later (below_alloc _ (.cells #[.int .i64 o.cls, .int .i64 o.kind, .slice T o.slots.length t, .string o.text, .int .i64 o.bits, .int .i64 o.hash] 43)))
  have HY := hid (BoxO.new (w.alloc (.cells #[.int .i64 o.cls, .int .i64 o.kind, .slice S o.slots.length d, .string o.text, .int .i64 o.bits, .int .i64 o.hash] 43)) o T t)
  have HS := hid hs
  have HT := hid ht
  clear hs ht
  go_enter Try.func33, Try.ntmps33
  go_wp2
  go_loopw [5] (fun i wr => ∃ k : Nat, k ≤ o.slots.length ∧ i = .int .i64 k ∧ Below w.heap.size w wr ∧ BoxO wr w.heap.size o S d ∧ BoxO wr (w.heap.size + 1) o T t) (fun i _ => o.slots.length - (intOf i).toNat)
  case atStart => exact ⟨0, Nat.zero_le _, rfl, HB0.out, HX.out, by simpa using HY.out⟩
  case round =>
    obtain ⟨k, hk, rfl, hbw, hX, hY⟩ := hrel
    have HW := hid hbw
    have HX' := hid hX
    have HY' := hid hY
    clear hbw HX HY
    obtain ⟨-, -, e2, -, -, -⟩ := hX
    obtain ⟨-, -, f2, -, -, -⟩ := hY
    by_cases hlt : k < o.slots.length
    · obtain ⟨bs, os, rfl, hbs, hcs⟩ := HS.out (by omega)
      obtain ⟨bt, ot, rfl, hbt, hct⟩ := HT.out (by omega)
      have hcell : wr.cell? ⟨bs, os + k, none⟩ = some (.int .i64 o.slots[k]) := (HW.out.cell (p := ⟨bs, os + k, none⟩) hbs).trans (hcs k _ (List.getElem?_eq_getElem hlt))
      have hcelt : wr.cell? ⟨bt, ot + k, none⟩ = some (.int .i64 o.slots[k]) := (HW.out.cell (p := ⟨bt, ot + k, none⟩) hbt).trans (hct k _ (List.getElem?_eq_getElem hlt))
      clear hcs hct
      go_wp2
      go_quiet (fail)
      go_wp2
      go_roundw
      case rel => exact ⟨k + 1, by omega, by go_num, below_go HW.out HW.out.size (below_drewN _ _), HX'.out.later (below_drewN _ _), HY'.out.later (below_drewN _ _)⟩
      case measure => simp [intOf]; omega
    · go_wp2
      go_ret
      exact ⟨rfl, HW.out⟩

def ObSame (w : World) (b off : Nat) (S : Option Addr) (d : Nat) (o : Ob) : Prop := ObC w b off S d o ∧ IntsR w S o.slots
set_option maxRecDepth 100000 in
set_option maxHeartbeats 4000000 in
theorem same_any (h : Hp) (A A' : Option Addr) (c c' : Nat) (w : World) (hs : ObsR w A h.objs) (ht : ObsR w A' h.objs) (fit : h.Fit) :
    Calls Try.prog 13 #[.agg #[.slice A h.objs.length c, .int .i64 h.cap, .int .i64 h.last], .agg #[.slice A' h.objs.length c', .int .i64 h.cap, .int .i64 h.last]] w fun e w' => e = .returned (.bool true) ∧ Below w.heap.size w w' := by
  have HB0 := hid (below_alloc2 w (.cells #[Value.slice A h.objs.length c, Value.int .i64 h.cap, Value.int .i64 h.last] 24) (.cells #[Value.slice A' h.objs.length c', Value.int .i64 h.cap, Value.int .i64 h.last] 24))
  have HX := hid ((BoxH.new w h A c).later (below_alloc _ (.cells #[Value.slice A' h.objs.length c', Value.int .i64 h.cap, Value.int .i64 h.last] 24)))
  have HY := hid (BoxH.new (w.alloc (.cells #[Value.slice A h.objs.length c, Value.int .i64 h.cap, Value.int .i64 h.last] 24)) h A' c')
  have HS := hid hs
  have HT := hid ht
  have HF := hid fit
  have hl : h.objs.length ≤ 9223372036854775807 := fit.1
  clear hs ht fit
  go_enter Try.func13, Try.ntmps13
  go_wp2
  go_loopw [5] (fun i wr => ∃ k : Nat, k ≤ h.objs.length ∧ i = .int .i64 k ∧ Below w.heap.size w wr ∧ BoxH wr w.heap.size h A c ∧ BoxH wr (w.heap.size + 1) h A' c') (fun i _ => h.objs.length - (intOf i).toNat)
  case atStart => exact ⟨0, Nat.zero_le _, rfl, HB0.out, HX.out, by simpa using HY.out⟩
  case round =>
    obtain ⟨k, hk, rfl, hbw, hX, hY⟩ := hrel
    have HW := hid hbw
    have HX' := hid hX
    have HY' := hid hY
    clear hbw HX HY
    obtain ⟨e0, -, -⟩ := hX
    obtain ⟨f0, -, -⟩ := hY
    by_cases hlt : k < h.objs.length
    · obtain ⟨bs, os, rfl, hbs, hcs⟩ := HS.out (by omega)
      obtain ⟨bt, ot, rfl, hbt, hct⟩ := HT.out (by omega)
      obtain ⟨S, d, hob, hin, _⟩ := hcs k _ (List.getElem?_eq_getElem hlt)
      obtain ⟨T, t, hob', hin', _⟩ := hct k _ (List.getElem?_eq_getElem hlt)
      obtain ⟨c0, c1, c2, c3, c4, c5⟩ := hob.below hbs HW.out
      obtain ⟨d0, d1, d2, d3, d4, d5⟩ := hob'.below hbt HW.out
      have HI := hid (hin.below HW.out)
      have HI' := hid (hin'.below HW.out)
      have hol := HF.out.slots (List.getElem_mem hlt)
      obtain ⟨o, ho⟩ : ∃ o, o = h.objs[k] := ⟨_, rfl⟩
      rw [← ho] at c0 c1 c2 c3 c4 c5 d0 d1 d2 d3 d4 d5 HI HI' hol
      clear hcs hct hob hob' hin hin' ho
      go_wp2
      go_region_held3 (fun w' => w'.cell? ⟨w.heap.size, 0, none⟩ = some (.slice (some ⟨bs, os, none⟩) h.objs.length c) ∧ w'.cell? ⟨w.heap.size + 1, 0, none⟩ = some (.slice (some ⟨bt, ot, none⟩) h.objs.length c') ∧
          w'.cell? ⟨bs, os + k * 6, none⟩ = some (.int .i64 o.cls) ∧ w'.cell? ⟨bs, os + k * 6 + 1, none⟩ = some (.int .i64 o.kind) ∧ w'.cell? ⟨bs, os + k * 6 + 2, none⟩ = some (.slice S o.slots.length d) ∧ w'.cell? ⟨bs, os + k * 6 + 3, none⟩ = some (.string o.text) ∧ w'.cell? ⟨bs, os + k * 6 + 4, none⟩ = some (.int .i64 o.bits) ∧ w'.cell? ⟨bs, os + k * 6 + 5, none⟩ = some (.int .i64 o.hash) ∧
          w'.cell? ⟨bt, ot + k * 6, none⟩ = some (.int .i64 o.cls) ∧ w'.cell? ⟨bt, ot + k * 6 + 1, none⟩ = some (.int .i64 o.kind) ∧ w'.cell? ⟨bt, ot + k * 6 + 2, none⟩ = some (.slice T o.slots.length t) ∧ w'.cell? ⟨bt, ot + k * 6 + 3, none⟩ = some (.string o.text) ∧ w'.cell? ⟨bt, ot + k * 6 + 4, none⟩ = some (.int .i64 o.bits) ∧ w'.cell? ⟨bt, ot + k * 6 + 5, none⟩ = some (.int .i64 o.hash))
        (first | exact ⟨e0, f0, c0, c1, c2, c3, c4, c5, d0, d1, d2, d3, d4, d5⟩ | exact ⟨cell_later hb e0, cell_later hb f0, cell_later hb c0, cell_later hb c1, cell_later hb c2, cell_later hb c3, cell_later hb c4, cell_later hb c5, cell_later hb d0, cell_later hb d1, cell_later hb d2, cell_later hb d3, cell_later hb d4, cell_later hb d5⟩)
        (first | (go_at_call 33; refine (one_same o S T d t _ (HI.out.below (Below.refl _ _).drew) (HI'.out.below (Below.refl _ _).drew) hol).mono ?_; rintro e w' ⟨rfl, hb⟩))
      go_wp2
      go_roundw
      case rel => exact ⟨k + 1, by omega, by go_num, below_go HW.out.drew HW.out.size hb, HX'.out.later ((Below.refl _ _).drew.trans hb), HY'.out.later ((Below.refl _ _).drew.trans hb)⟩
      case measure => simp [intOf]; omega
    · go_wp2
      go_ret
      exact ⟨rfl, HW.out⟩
end Go.Proofs.Ytkpfmbdkfgeboaa
