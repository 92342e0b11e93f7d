/- The document's words One and Same, both ways. -/
import Derived.Test.YthggafdfglojaaaRE
namespace Go.Proofs.Ythggafdfglojaaa
open Go.RowKit
set_option maxRecDepth 100000
theorem take_ints {xs ys : List Int} {k : Nat} (hk : k < xs.length) (hl : xs.length = ys.length) (h : xs.take k = ys.take k) (e : xs[k] = ys[k]'(by omega)) : xs.take (k + 1) = ys.take (k + 1) := by
  rw [List.take_succ_eq_append_getElem hk, List.take_succ_eq_append_getElem (by omega : k < ys.length), h, e]
theorem take_obs {os ps : List Ob} {k : Nat} (hk : k < os.length) (hl : os.length = ps.length) (h : os.take k = ps.take k) (e : os[k] = ps[k]'(by omega)) : os.take (k + 1) = ps.take (k + 1) := by
  rw [List.take_succ_eq_append_getElem hk, List.take_succ_eq_append_getElem (by omega : k < ps.length), h, e]
set_option maxHeartbeats 4000000 in
theorem one_dec (o p : Ob) (S T : Option Addr) (d t : Nat) (w : World) (hs : IntsR w S o.slots) (ht : IntsR w T p.slots) (hl : o.slots.length ≤ 9223372036854775807) (hl2 : p.slots.length ≤ 9223372036854775807) :
    Calls Try.prog 35 #[.agg #[.int .i64 o.cls, .int .i64 o.kind, .slice S o.slots.length d, .string o.text, .int .i64 o.bits, .int .i64 o.hash], .agg #[.int .i64 p.cls, .int .i64 p.kind, .slice T p.slots.length t, .string p.text, .int .i64 p.bits, .int .i64 p.hash]] w fun e w' => (∃ x : Bool, e = .returned (.bool x) ∧ (x = true ↔ o = p)) ∧ Below w.heap.size w w' := by
  obtain ⟨w0, hw0⟩ : ∃ w0, w0 = (w.alloc (.cells #[.int .i64 o.cls, .int .i64 o.kind, .slice S o.slots.length d, .string o.text, .int .i64 o.bits, .int .i64 o.hash] 46)).alloc (.cells #[.int .i64 p.cls, .int .i64 p.kind, .slice T p.slots.length t, .string p.text, .int .i64 p.bits, .int .i64 p.hash] 46) := ⟨_, rfl⟩
  have HB0 : Hid (Below w.heap.size w w0) := by show Below _ _ _; rw [hw0]; exact below_alloc2 w _ _
  have HX : Hid (BoxO w0 w.heap.size o S d) := by show BoxO _ _ _ _ _; rw [hw0]; exact (BoxO.new w o S d).later (below_alloc _ _)
  have HY : Hid (BoxO w0 (w.heap.size + 1) p T t) := by
    show BoxO _ _ _ _ _; rw [hw0]
    have := BoxO.new (w.alloc (.cells #[.int .i64 o.cls, .int .i64 o.kind, .slice S o.slots.length d, .string o.text, .int .i64 o.bits, .int .i64 o.hash] 46)) p T t
    simpa using this
  have HS := hid hs
  have HT := hid ht
  clear hs ht
  go_enter Try.func35, Try.ntmps35
  go_upto_region 1 with fail
  rw [← hw0]
  clear hw0
  obtain ⟨g0, g1, g2, g3, g4, g5⟩ := HX.out
  obtain ⟨k0, k1, k2, k3, k4, k5⟩ := HY.out
  by_cases q1 : o.cls = p.cls
  rotate_left
  · go_wp2_with fail
    go_ret
    exact ⟨⟨false, rfl, by simp only [Bool.false_eq_true, false_iff]; exact fun h => q1 (congrArg Ob.cls h)⟩, HB0.out⟩
  by_cases q2 : o.kind = p.kind
  rotate_left
  · go_wp2_with fail
    go_ret
    exact ⟨⟨false, rfl, by simp only [Bool.false_eq_true, false_iff]; exact fun h => q2 (congrArg Ob.kind h)⟩, HB0.out⟩
  by_cases q3 : o.text.toList = p.text.toList
  rotate_left
  · go_wp2_with fail
    go_ret
    exact ⟨⟨false, rfl, by simp only [Bool.false_eq_true, false_iff]; exact fun h => q3 (by rw [h])⟩, HB0.out⟩
  by_cases q4 : o.bits = p.bits
  rotate_left
  · go_wp2_with fail
    go_ret
    exact ⟨⟨false, rfl, by simp only [Bool.false_eq_true, false_iff]; exact fun h => q4 (congrArg Ob.bits h)⟩, HB0.out⟩
  by_cases q5 : o.hash = p.hash
  rotate_left
  · go_wp2_with fail
    go_ret
    exact ⟨⟨false, rfl, by simp only [Bool.false_eq_true, false_iff]; exact fun h => q5 (congrArg Ob.hash h)⟩, HB0.out⟩
  by_cases q6 : o.slots.length = p.slots.length
  rotate_left
  · go_wp2_with fail
    go_ret
    exact ⟨⟨false, rfl, by simp only [Bool.false_eq_true, false_iff]; exact fun h => q6 (by rw [h])⟩, HB0.out⟩
  have HQ1 := hid q1
  have HQ2 := hid q2
  have HQ3 := hid q3
  have HQ4 := hid q4
  have HQ5 := hid q5
  have HQ6 := hid q6
  go_wp2_with fail
  clear q1 q2 q3 q4 q5 q6
  go_loopw [5] (fun i wr => ∃ k : Nat, k ≤ o.slots.length ∧ i = .int .i64 k ∧ o.slots.take k = p.slots.take k ∧ Below w.heap.size w wr ∧ BoxO wr w.heap.size o S d ∧ BoxO wr (w.heap.size + 1) p T t) (fun i _ => o.slots.length - (intOf i).toNat)
  case atStart => exact ⟨0, Nat.zero_le _, rfl, rfl, HB0.out, HX.out, HY.out⟩
  case round =>
    obtain ⟨k, hk, rfl, htk, hbw, hX, hY⟩ := hrel
    have HW := hid hbw
    have HX' := hid hX
    have HY' := hid hY
    have HTK := hid htk
    have h6 := Nat.le_of_eq HQ6.out
    have h7 := Nat.le_of_eq HQ6.out.symm
    clear hbw htk HX HY
    obtain ⟨-, -, e2, -, -, -⟩ := hX
    obtain ⟨-, -, f2, -, -, -⟩ := hY
    by_cases hlt : k < o.slots.length
    · obtain ⟨bs, os, rfl, hbs, hcs⟩ := HS.out (by omega)
      obtain ⟨bt, ot, rfl, hbt, hct⟩ := HT.out (by omega)
      have hlt2 : k < p.slots.length := by omega
      have hcell : wr.cell? ⟨bs, os + k, none⟩ = some (.int .i64 o.slots[k]) := (HW.out.cell (p := ⟨bs, os + k, none⟩) hbs).trans (hcs k _ (List.getElem?_eq_getElem hlt))
      have hcelt : wr.cell? ⟨bt, ot + k, none⟩ = some (.int .i64 p.slots[k]) := (HW.out.cell (p := ⟨bt, ot + k, none⟩) hbt).trans (hct k _ (List.getElem?_eq_getElem hlt2))
      have HST : Hid (o.slots[k] = p.slots[k] → o.slots.take (k + 1) = p.slots.take (k + 1)) := take_ints hlt HQ6.out HTK.out
      have HNE : Hid (o.slots[k] ≠ p.slots[k] → o ≠ p) := fun hh e => by subst e; exact hh rfl
      obtain ⟨v, hv⟩ : ∃ v, v = o.slots[k] := ⟨_, rfl⟩
      obtain ⟨u, hu⟩ : ∃ u, u = p.slots[k] := ⟨_, rfl⟩
      rw [← hv] at hcell HST HNE
      rw [← hu] at hcelt HST HNE
      clear hcs hct hv hu
      by_cases hvu : v = u
      · have HVU := hid hvu
        go_wp2_with fail
        go_quiet (fail)
        go_wp2_with fail
        go_roundw
        case rel => exact ⟨k + 1, by omega, by go_num, HST.out HVU.out, below_go HW.out HW.out.size (below_drewN _ _), HX'.out.later (below_drewN _ _), HY'.out.later (below_drewN _ _)⟩
        case measure => simp [intOf]; omega
      · have HVU := hid hvu
        go_wp2_with fail
        go_quiet (fail)
        go_wp2_with fail
        go_ret
        exact ⟨⟨false, rfl, by simp only [Bool.false_eq_true, false_iff]; exact HNE.out HVU.out⟩, below_go HW.out HW.out.size (below_drewN _ _)⟩
    · go_wp2_with fail
      go_ret
      refine ⟨⟨true, rfl, ?_⟩, HW.out⟩
      simp only [true_iff]
      have hkk : k = o.slots.length := by omega
      subst hkk
      have := HTK.out
      rw [List.take_length, HQ6.out, List.take_length] at this
      exact ob_eq HQ1.out HQ2.out this (text_inj HQ3.out) HQ4.out HQ5.out

set_option maxHeartbeats 4000000 in
theorem same_dec (a b : Hp) (A B : Option Addr) (c c' : Nat) (w : World) (hs : ObsR w A a.objs) (ht : ObsR w B b.objs) (fa : a.Fit) (fb : b.Fit) (hcap : a.cap = b.cap) (hlast : a.last = b.last) :
    Calls Try.prog 28 #[.agg #[.slice A a.objs.length c, .int .i64 a.cap, .int .i64 a.last], .agg #[.slice B b.objs.length c', .int .i64 b.cap, .int .i64 b.last]] w fun e w' => (∃ x : Bool, e = .returned (.bool x) ∧ (x = true ↔ a.objs = b.objs)) ∧ Below w.heap.size w w' := by
  obtain ⟨w0, hw0⟩ : ∃ w0, w0 = (w.alloc (.cells #[Value.slice A a.objs.length c, Value.int .i64 a.cap, Value.int .i64 a.last] 24)).alloc (.cells #[Value.slice B b.objs.length c', Value.int .i64 b.cap, Value.int .i64 b.last] 24) := ⟨_, rfl⟩
  have HB0 : Hid (Below w.heap.size w w0) := by show Below _ _ _; rw [hw0]; exact below_alloc2 w _ _
  have HX : Hid (BoxH w0 w.heap.size a A c) := by show BoxH _ _ _ _ _; rw [hw0]; exact (BoxH.new w a A c).later (below_alloc _ _)
  have HY : Hid (BoxH w0 (w.heap.size + 1) b B c') := by
    show BoxH _ _ _ _ _; rw [hw0]
    have := BoxH.new (w.alloc (.cells #[Value.slice A a.objs.length c, Value.int .i64 a.cap, Value.int .i64 a.last] 24)) b B c'
    simpa using this
  have HS := hid hs
  have HT := hid ht
  have HF := hid fa
  have HG := hid fb
  have hl : a.objs.length ≤ 9223372036854775807 := fa.1
  have hl2 : b.objs.length ≤ 9223372036854775807 := fb.1
  have HC1 := hid hcap
  have HC2 := hid hlast
  clear hs ht fa fb hcap hlast
  go_enter Try.func28, Try.ntmps28
  go_upto_region 1 with fail
  rw [← hw0]
  clear hw0
  have hcap := HC1.out
  have hlast := HC2.out
  obtain ⟨g0, g1, g2⟩ := HX.out
  obtain ⟨k0, k1, k2⟩ := HY.out
  by_cases q6 : a.objs.length = b.objs.length
  rotate_left
  · go_wp2_with fail
    go_ret
    exact ⟨⟨false, rfl, by simp only [Bool.false_eq_true, false_iff]; exact fun h => q6 (by rw [h])⟩, HB0.out⟩
  have HQ6 := hid q6
  go_wp2_with fail
  clear q6 hcap hlast
  go_loopw [5] (fun i wr => ∃ k : Nat, k ≤ a.objs.length ∧ i = .int .i64 k ∧ a.objs.take k = b.objs.take k ∧ Below w.heap.size w wr ∧ BoxH wr w.heap.size a A c ∧ BoxH wr (w.heap.size + 1) b B c') (fun i _ => a.objs.length - (intOf i).toNat)
  case atStart => exact ⟨0, Nat.zero_le _, rfl, rfl, HB0.out, HX.out, HY.out⟩
  case round =>
    obtain ⟨k, hk, rfl, htk, hbw, hX, hY⟩ := hrel
    have HW := hid hbw
    have HX' := hid hX
    have HY' := hid hY
    have HTK := hid htk
    have h6 := Nat.le_of_eq HQ6.out
    have h7 := Nat.le_of_eq HQ6.out.symm
    clear hbw htk HX HY
    obtain ⟨e0, -, -⟩ := hX
    obtain ⟨f0, -, -⟩ := hY
    by_cases hlt : k < a.objs.length
    · obtain ⟨bs, os, rfl, hbs, hcs⟩ := HS.out (by omega)
      obtain ⟨bt, ot, rfl, hbt, hct⟩ := HT.out (by omega)
      have hlt2 : k < b.objs.length := by omega
      obtain ⟨S, d, hob, hin, _⟩ := hcs k _ (List.getElem?_eq_getElem hlt)
      obtain ⟨T, t, hob', hin', _⟩ := hct k _ (List.getElem?_eq_getElem hlt2)
      obtain ⟨c0, c1, c2, c3, c4, c5⟩ := hob.below hbs HW.out
      obtain ⟨d0, d1, d2, d3, d4, d5⟩ := hob'.below hbt HW.out
      have HI := hid (hin.below HW.out)
      have HI' := hid (hin'.below HW.out)
      have hol := HF.out.slots (List.getElem_mem hlt)
      have hol2 := HG.out.slots (List.getElem_mem hlt2)
      have HST : Hid (a.objs[k] = b.objs[k] → a.objs.take (k + 1) = b.objs.take (k + 1)) := take_obs hlt HQ6.out HTK.out
      have HNE : Hid (a.objs[k] ≠ b.objs[k] → a.objs ≠ b.objs) := fun hh e => hh (Option.some.inj ((List.getElem?_eq_getElem hlt).symm.trans ((congrArg (fun l => l[k]?) e).trans (List.getElem?_eq_getElem hlt2))))
      obtain ⟨o, ho⟩ : ∃ o, o = a.objs[k] := ⟨_, rfl⟩
      rw [← ho] at c0 c1 c2 c3 c4 c5 HI hol HST HNE
      obtain ⟨p, hp⟩ : ∃ p, p = b.objs[k] := ⟨_, rfl⟩
      rw [← hp] at d0 d1 d2 d3 d4 d5 HI' hol2 HST HNE
      clear hcs hct hob hob' hin hin' ho hp g0 g1 g2 k0 k1 k2
      go_wp2_with fail
      go_region_held3 (fun w' => w'.cell? ⟨w.heap.size, 0, none⟩ = some (.slice (some ⟨bs, os, none⟩) a.objs.length c) ∧ w'.cell? ⟨w.heap.size + 1, 0, none⟩ = some (.slice (some ⟨bt, ot, none⟩) b.objs.length c') ∧
          w'.cell? ⟨bs, os + k * 6, none⟩ = some (.int .i64 o.cls) ∧ w'.cell? ⟨bs, os + k * 6 + 1, none⟩ = some (.int .i64 o.kind) ∧ w'.cell? ⟨bs, os + k * 6 + 2, none⟩ = some (.slice S o.slots.length d) ∧ w'.cell? ⟨bs, os + k * 6 + 3, none⟩ = some (.string o.text) ∧ w'.cell? ⟨bs, os + k * 6 + 4, none⟩ = some (.int .i64 o.bits) ∧ w'.cell? ⟨bs, os + k * 6 + 5, none⟩ = some (.int .i64 o.hash) ∧
          w'.cell? ⟨bt, ot + k * 6, none⟩ = some (.int .i64 p.cls) ∧ w'.cell? ⟨bt, ot + k * 6 + 1, none⟩ = some (.int .i64 p.kind) ∧ w'.cell? ⟨bt, ot + k * 6 + 2, none⟩ = some (.slice T p.slots.length t) ∧ w'.cell? ⟨bt, ot + k * 6 + 3, none⟩ = some (.string p.text) ∧ w'.cell? ⟨bt, ot + k * 6 + 4, none⟩ = some (.int .i64 p.bits) ∧ w'.cell? ⟨bt, ot + k * 6 + 5, none⟩ = some (.int .i64 p.hash))
        (first | exact ⟨e0, f0, c0, c1, c2, c3, c4, c5, d0, d1, d2, d3, d4, d5⟩ | exact ⟨cell_later hb e0, cell_later hb f0, cell_later hb c0, cell_later hb c1, cell_later hb c2, cell_later hb c3, cell_later hb c4, cell_later hb c5, cell_later hb d0, cell_later hb d1, cell_later hb d2, cell_later hb d3, cell_later hb d4, cell_later hb d5⟩)
        (first | (go_at_call 35; refine (one_dec o p S T d t _ (HI.out.below (Below.refl _ _).drew) (HI'.out.below (Below.refl _ _).drew) hol hol2).mono ?_; rintro e w' ⟨⟨x, rfl, hx⟩, hb⟩; have HXX := hid hx; clear hx))
      cases x
      · go_wp2_with fail
        go_ret
        exact ⟨⟨false, rfl, by simp only [Bool.false_eq_true, false_iff]; exact HNE.out fun e => by cases HXX.out.2 e⟩, below_go HW.out.drew HW.out.size hb⟩
      · go_wp2_with fail
        go_roundw
        case rel => exact ⟨k + 1, by omega, by go_num, HST.out (HXX.out.1 rfl), below_go HW.out.drew HW.out.size hb, HX'.out.later ((Below.refl _ _).drew.trans hb), HY'.out.later ((Below.refl _ _).drew.trans hb)⟩
        case measure => simp [intOf]; omega
    · go_wp2_with fail
      go_ret
      refine ⟨⟨true, rfl, ?_⟩, HW.out⟩
      simp only [true_iff]
      have hkk : k = a.objs.length := by omega
      subst hkk
      have := HTK.out
      rwa [List.take_length, HQ6.out, List.take_length] at this
end Go.Proofs.Ythggafdfglojaaa
