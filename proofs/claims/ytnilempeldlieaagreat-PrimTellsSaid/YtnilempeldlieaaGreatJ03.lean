/- heap.clone: the same heap in memory of the call's own. The document's words Same, One, Small: of what reads as the same, that it is the same; of a heap, whether it is small. -/
import Derived.Test.YtnilempeldlieaaGreatJ02
import Derived.Deep.DeepCutAuto
namespace Go.Proofs.YtnilempeldlieaaGreat
open Go.RowKit
theorem own_ints {w : World} {base : Nat} {S : Option Addr} {c : Nat} {xs : List Int} (h : w.ownsRow base 3 1 (.slice S xs.length c) xs.length (xs.map (Value.int .i64))) : IntsR w S xs := fun hn => by
  obtain ⟨g, cap, hv, hb, hlt⟩ := h.form hn
  simp only [Value.slice.injEq, true_and] at hv
  obtain ⟨rfl, rfl⟩ := hv
  refine ⟨g, 0, rfl, hlt, fun j x hx => ?_⟩
  have hj : j < xs.length := (List.getElem?_eq_some_iff.1 hx).1
  rw [Nat.zero_add, h.cellAt j (by omega), List.getElem?_map, hx]; rfl

structure OwnH (w : World) (base : Nat) (A : Option Addr) (c : Nat) (ls : List LO) : Prop where
  row : w.ownsRow base 41 6 (.slice A ls.length c) ls.length (rowOf ls)
  ints : ∀ (i : Nat) (l : LO), ls[i]? = some l → w.ownsRow base 3 1 (.slice l.S l.o.slots.length l.c) l.o.slots.length (l.o.slots.map (Value.int .i64))
  apart : ∀ (i j : Nat) (li lj : LO) (a b : Addr), ls[i]? = some li → ls[j]? = some lj → i < j → li.S = some a → lj.S = some b → a.block ≠ b.block
theorem OwnH.later {w w' : World} {base : Nat} {A : Option Addr} {c : Nat} {ls : List LO} (h : OwnH w base A c ls) (hb : Below w.heap.size w w') : OwnH w' base A c ls :=
  ⟨own_later h.row hb, fun i l hl => own_later (h.ints i l hl) hb, h.apart⟩
theorem OwnH.laid {w : World} {base : Nat} {A : Option Addr} {c : Nat} {ls : List LO} (h : OwnH w base A c ls) : LaidR w A ls where
  row := fun hn => by
    obtain ⟨g, cap, hv, hb, hlt⟩ := h.row.form hn
    simp only [Value.slice.injEq, true_and] at hv
    obtain ⟨rfl, rfl⟩ := hv
    refine ⟨g, 0, rfl, hlt, fun j u hu => ?_⟩
    have hj : j < (rowOf ls).length := (List.getElem?_eq_some_iff.1 hu).1
    rw [rowOf_length] at hj
    rw [Nat.zero_add, h.row.cellAt j hj, hu]
  ints := fun l hl => by
    obtain ⟨i, hi, rfl⟩ := List.getElem_of_mem hl
    exact own_ints (h.ints i _ (List.getElem?_eq_getElem hi))
  nils := fun l hl => by
    obtain ⟨i, hi, rfl⟩ := List.getElem_of_mem hl
    exact own_nil (h.ints i _ (List.getElem?_eq_getElem hi))
theorem OwnH.obs {w : World} {base : Nat} {A : Option Addr} {c : Nat} {ls : List LO} (h : OwnH w base A c ls) : ObsR w A (ls.map (·.o)) :=
  h.laid.obs fun l hl => by
    obtain ⟨i, hi, rfl⟩ := List.getElem_of_mem hl
    exact own_cap (h.ints i _ (List.getElem?_eq_getElem hi))

theorem LaidR.later {w w' : World} {A : Option Addr} {ls : List LO} (h : LaidR w A ls) (hb : Below w.heap.size w w') : LaidR w' A ls :=
  ⟨fun hn => by
    obtain ⟨b, off, e, hlt, hc⟩ := h.row hn
    exact ⟨b, off, e, Nat.lt_of_lt_of_le hlt hb.size, fun j u hu => cell_later hb (hc j u hu)⟩, fun l hl => (h.ints l hl).below hb, h.nils⟩

structure CloneK (w : World) (base : Nat) (A1 : Option Addr) (c1 : Nat) (ls : List LO) (k : Nat) (cur : List LO) : Prop where
  same : cur.map (·.o) = ls.map (·.o)
  row : w.ownsRow base 41 6 (.slice A1 ls.length c1) ls.length (rowOf cur)
  old : ∀ i, k ≤ i → cur[i]? = ls[i]?
  ints : ∀ (i : Nat) (l : LO), i < k → cur[i]? = some l → w.ownsRow base 3 1 (.slice l.S l.o.slots.length l.c) l.o.slots.length (l.o.slots.map (Value.int .i64))
  apart : ∀ (i j : Nat) (li lj : LO) (a b : Addr), i < j → j < k → cur[i]? = some li → cur[j]? = some lj → li.S = some a → lj.S = some b → a.block ≠ b.block
theorem CloneK.len {w : World} {base : Nat} {A1 : Option Addr} {c1 : Nat} {ls : List LO} {k : Nat} {cur : List LO} (h : CloneK w base A1 c1 ls k cur) : cur.length = ls.length := by
  have := congrArg List.length h.same
  simpa using this
theorem CloneK.start {w : World} {base : Nat} {A1 : Option Addr} {c1 : Nat} {ls : List LO} (h : w.ownsRow base 41 6 (.slice A1 ls.length c1) ls.length (rowOf ls)) : CloneK w base A1 c1 ls 0 ls :=
  ⟨rfl, h, fun _ _ => rfl, fun i l hi => absurd hi (by omega), fun i j _ _ _ _ _ hj => absurd hj (by omega)⟩
theorem CloneK.later {w w' : World} {base : Nat} {A1 : Option Addr} {c1 : Nat} {ls : List LO} {k : Nat} {cur : List LO} (h : CloneK w base A1 c1 ls k cur) (hb : Below w.heap.size w w') : CloneK w' base A1 c1 ls k cur :=
  ⟨h.same, own_later h.row hb, h.old, fun i l hi hl => own_later (h.ints i l hi hl) hb, h.apart⟩
theorem CloneK.low {w : World} {base : Nat} {A1 : Option Addr} {c1 : Nat} {ls : List LO} {k : Nat} {cur : List LO} (h : CloneK w base A1 c1 ls k cur) {p : Addr} (hp : p.block < base) (u : Value) : CloneK (w.setCell p u) base A1 c1 ls k cur :=
  ⟨h.same, ownsRow_setCell_below h.row hp u, h.old, fun i l hi hl => ownsRow_setCell_below (h.ints i l hi hl) hp u, h.apart⟩
theorem CloneK.fin {w : World} {base B : Nat} {A1 : Option Addr} {c1 : Nat} {ls : List LO} {cur : List LO} (h : CloneK w base A1 c1 ls ls.length cur) (hB : B ≤ base) : OwnH w B A1 c1 cur := by
  have hl := h.len
  refine ⟨by rw [hl]; exact own_lower h.row hB, fun i l hi => ?_, fun i j li lj a b hi hj hij => h.apart i j li lj a b hij ?_ hi hj⟩
  · have : i < cur.length := (List.getElem?_eq_some_iff.1 hi).1
    exact own_lower (h.ints i l (by omega) hi) hB
  · have : j < cur.length := (List.getElem?_eq_some_iff.1 hj).1
    omega
theorem rowOf_set (ls : List LO) (k : Nat) (l : LO) (S : Option Addr) (c : Nat) (hk : ls[k]? = some l) : rowOf (ls.set k ⟨l.o, S, c⟩) = (rowOf ls).set (k * 6 + 2) (.slice S l.o.slots.length c) := by
  apply List.ext_getElem?
  intro j
  have hkl : k < ls.length := (List.getElem?_eq_some_iff.1 hk).1
  by_cases hj : j < ls.length * 6
  · have hi : j / 6 < ls.length := by omega
    have e1 := rowOf_get ls (j / 6) (j % 6) ls[j / 6] (List.getElem?_eq_getElem hi) (by omega)
    have hi' : j / 6 < (ls.set k ⟨l.o, S, c⟩).length := by simpa using hi
    have e2 := rowOf_get (ls.set k ⟨l.o, S, c⟩) (j / 6) (j % 6) _ (List.getElem?_eq_getElem hi') (by omega)
    rw [show j / 6 * 6 + j % 6 = j by omega] at e1 e2
    rw [e2, List.getElem?_set, rowOf_length]
    by_cases hjk : k = j / 6
    · have hg : (ls.set k ⟨l.o, S, c⟩)[j / 6] = ⟨l.o, S, c⟩ := by rw [List.getElem_set]; rw [if_pos hjk]
      rw [hg]
      have hl : ls[j / 6] = l := by
        have h1 := List.getElem?_eq_getElem hi
        have h2 := hk
        rw [hjk, h1] at h2
        exact Option.some.inj h2
      rw [hl] at e1
      by_cases h2 : k * 6 + 2 = j
      · rw [if_pos h2, if_pos (by omega), show j % 6 = 2 by omega]; rfl
      · rw [if_neg h2, e1]
        have hr : j % 6 = 0 ∨ j % 6 = 1 ∨ j % 6 = 3 ∨ j % 6 = 4 ∨ j % 6 = 5 := by omega
        rcases hr with r | r | r | r | r <;> rw [r] <;> rfl
    · have hg : (ls.set k ⟨l.o, S, c⟩)[j / 6] = ls[j / 6] := by rw [List.getElem_set]; rw [if_neg hjk]
      rw [hg, if_neg (by omega), e1]
  · rw [List.getElem?_eq_none (by rw [rowOf_length]; simp; omega), List.getElem?_eq_none (by rw [List.length_set, rowOf_length]; omega)]
theorem CloneK.step {w : World} {base : Nat} {g c1 : Nat} {ls : List LO} {k : Nat} {cur : List LO} (h : CloneK w base (some ⟨g, 0, none⟩) c1 ls k cur) {l : LO} (hk : cur[k]? = some l)
    {b : Nat} {S : Option Addr} {c : Nat} (hS : w.ownsRow b 3 1 (.slice S l.o.slots.length c) l.o.slots.length (l.o.slots.map (Value.int .i64))) (hb : base ≤ b)
    (hnew : ∀ i li a, i < k → cur[i]? = some li → li.S = some a → a.block < b) :
    CloneK (w.setCell ⟨g, k * 6 + 2, none⟩ (.slice S l.o.slots.length c)) base (some ⟨g, 0, none⟩) c1 ls (k + 1) (cur.set k ⟨l.o, S, c⟩) := by
  have hkl : k < cur.length := (List.getElem?_eq_some_iff.1 hk).1
  obtain ⟨cur0, hB, _, _, _⟩ := own_blk h.row
  refine ⟨?_, ?_, fun i hi => ?_, fun i m hi hm => ?_, fun i j li lj a b' hij hj hi hj' ha hb' => ?_⟩
  · rw [← h.same]
    apply List.ext_getElem?
    intro j
    rw [List.getElem?_map, List.getElem?_map, List.getElem?_set]
    by_cases e : k = j
    · subst e; rw [if_pos rfl, if_pos hkl, hk]; rfl
    · rw [if_neg e]
  · rw [rowOf_set _ _ _ _ _ hk]
    exact (h.row.stored _ _).1
  · rw [List.getElem?_set, if_neg (by omega)]; exact h.old i (by omega)
  · rw [List.getElem?_set] at hm
    by_cases e : k = i
    · subst e
      rw [if_pos rfl, if_pos hkl] at hm
      cases hm
      exact own_lower (ownsRow_setCell_other hS (own_blk_ne hS hB (by decide)) _) hb
    · rw [if_neg e] at hm
      have h3 := h.ints i m (by omega) hm
      exact ownsRow_setCell_other h3 (own_blk_ne h3 hB (by decide)) _
  · rw [List.getElem?_set] at hi hj'
    rw [if_neg (by omega)] at hi
    by_cases e : k = j
    · subst e
      rw [if_pos rfl, if_pos hkl] at hj'
      cases hj'
      have h1 := hnew i li a (by omega) hi ha
      have hb2 : S = some b' := hb'
      subst hb2
      obtain ⟨_, _, _, _, h2⟩ := own_blk (b := b'.block) (o := b'.off) (s := b'.spot) hS
      omega
    · rw [if_neg e] at hj'
      exact h.apart i j li lj a b' hij (by omega) hi hj' ha hb'
theorem CloneK.blk_lt {w : World} {base : Nat} {A1 : Option Addr} {c1 : Nat} {ls : List LO} {k : Nat} {cur : List LO} (h : CloneK w base A1 c1 ls k cur) {i : Nat} {li : LO} {a : Addr} (hi : i < k) (hl : cur[i]? = some li) (ha : li.S = some a) : a.block < w.heap.size := by
  have h1 := h.ints i li hi hl
  rw [ha] at h1
  exact (h1.lt a.block rfl).2
set_option maxHeartbeats 1000000 in
theorem clone_any (cap last : Int) (A : Option Addr) (c : Nat) (ls : List LO) (w : World) (hs : LaidR w A ls) (hl : ls.length ≤ 256) (hl2 : ∀ l ∈ ls, l.o.slots.length ≤ 64) :
    Calls Tryz.prog 214 #[.agg #[.slice A ls.length c, .int .i64 cap, .int .i64 last]] w fun e w' => ∃ A' c' ls', e = .returned (.agg #[.slice A' ls.length c', .int .i64 cap, .int .i64 last]) ∧ ls'.map (·.o) = ls.map (·.o) ∧ OwnH w' w.heap.size A' c' ls' ∧ Below w.heap.size w w' := by
  have HS := hid hs
  clear hs
  go_enter Tryz.func214, Tryz.ntmps214
  go_wp2_with fail
  refine (clone2_any A ls c _ (HS.out.later (below_alloc2 _ _ _)) hl).mono ?_
  rintro e w1 ⟨A1, c1, rfl, hown, hb⟩
  have HO := hid hown
  have HB := hid hb
  have k0 : Lies w1 w.heap.size 24 #[.slice A ls.length c, .int .i64 cap, .int .i64 last] := ((Lies.new _ _ _).alloc _).later hb
  have k1 : Lies w1 (w.heap.size + 1) 24 #[.slice none 0 0, .int .i64 0, .int .i64 0] := by
    have := (Lies.new (w.alloc (.cells #[.slice A ls.length c, .int .i64 cap, .int .i64 last] 24)) 24 #[.slice none 0 0, .int .i64 0, .int .i64 0]).later hb
    simpa using this
  have e0 := k0.cell 0
  have f0 := k0.frozen 0
  have K0 := hid k0
  have K1 := hid k1
  clear hown hb k0 k1
  go_wp2_with fail
  have k0 := K0.out
  have HK0 := hid (k0.set_ 0 (.slice A1 ls.length c1))
  have HK1 := hid ((K1.out).far (p := ⟨w.heap.size, 0, none⟩) (by simp) (.slice A1 ls.length c1))
  have HC := hid ((CloneK.start (base := w.heap.size + 2) (by simpa using HO.out)).low (p := ⟨w.heap.size, 0, none⟩) (by simp) (.slice A1 ls.length c1))
  have HW : Hid (Below w.heap.size w (w1.setCell ⟨w.heap.size, 0, none⟩ (.slice A1 ls.length c1))) := ((below_alloc2 w _ _).trans (HB.out.mono (by simp; omega))).setCell (Nat.le_refl _) _
  have HZ : Hid (w.heap.size + 2 ≤ (w1.setCell ⟨w.heap.size, 0, none⟩ (.slice A1 ls.length c1)).heap.size) := by
    have := HB.out.size
    show _ ≤ _
    simp at this ⊢; omega
  clear k0 e0 f0
  go_loopw [12] (fun i wr => ∃ k cur, k ≤ ls.length ∧ i = .int .i64 (k : Nat) ∧ CloneK wr (w.heap.size + 2) A1 c1 ls k cur ∧ Lies wr w.heap.size 24 #[.slice A1 ls.length c1, .int .i64 cap, .int .i64 last] ∧ Lies wr (w.heap.size + 1) 24 #[.slice none 0 0, .int .i64 0, .int .i64 0] ∧ Below w.heap.size w wr ∧ w.heap.size + 2 ≤ wr.heap.size) (fun i _ => ls.length - (intOf i).toNat)
  case atStart => exact ⟨0, ls, Nat.zero_le _, rfl, HC.out, HK0.out, HK1.out, HW.out, HZ.out⟩
  case round =>
    obtain ⟨k, cur, hk, rfl, hC, b0, b1, hbw, hz⟩ := hrel
    have HC' := hid hC
    have HB0 := hid b0
    have HB1 := hid b1
    have HBW := hid hbw
    have e0 := b0.cell 0
    have e1 := b0.cell 1
    have e2 := b0.cell 2
    have f0 := b0.frozen 0
    simp only [List.getElem?_toArray, List.getElem?_cons_zero, List.getElem?_cons_succ] at e0 e1 e2
    clear hC b0 hbw HC HK0 HK1 HW HZ K0 K1 HB HO
    by_cases hlt : k < ls.length
    · have hlc : k < cur.length := by rw [HC'.out.len]; exact hlt
      have hck : cur[k]? = some cur[k] := List.getElem?_eq_getElem hlc
      have hlk : cur[k] = ls[k] := by
        have := HC'.out.old k (Nat.le_refl _)
        rw [hck, List.getElem?_eq_getElem hlt] at this
        exact Option.some.inj this
      obtain ⟨g, cg, hv, hg0, hg1⟩ := HC'.out.row.form (by omega)
      simp only [Value.slice.injEq, true_and] at hv
      obtain ⟨rfl, rfl⟩ := hv
      have q := fun j (hj : j < 6) => (HC'.out.row.cellAt (k * 6 + j) (by omega)).trans (rowOf_get cur k j _ hck hj)
      have q0 := q 0 (by omega)
      have q1 := q 1 (by omega)
      have q2 := q 2 (by omega)
      have q3 := q 3 (by omega)
      have q4 := q 4 (by omega)
      have q5 := q 5 (by omega)
      simp only [LO.cells, List.getElem?_cons_zero, List.getElem?_cons_succ, Nat.add_zero] at q0 q1 q2 q3 q4 q5
      obtain ⟨l, hl⟩ : ∃ l, l = cur[k] := ⟨_, rfl⟩
      have HLl := hid hl
      rw [← hl] at q0 q1 q2 q3 q4 q5
      have HLK := hid hlk
      have HCK := hid hck
      clear q hck hlk hl b1
      go_wp2_with fail
      have HI : Hid (IntsR wr l.S l.o.slots) := (HS.out.ints l (by rw [HLl.out]; exact HLK.out ▸ List.getElem_mem hlt)).below HBW.out
      have hl64 := hl2 l (by rw [HLl.out]; exact HLK.out ▸ List.getElem_mem hlt)
      have hgB : g ≠ w.heap.size := by omega
      have HA := hid (below_alloc wr (.cells #[.int .i64 l.o.cls, .int .i64 l.o.kind, .slice l.S l.o.slots.length l.c, .string l.o.text, .int .i64 l.o.bits, .int .i64 l.o.hash] 41))
      have e0' := cell_old (ob := .cells #[.int .i64 l.o.cls, .int .i64 l.o.kind, .slice l.S l.o.slots.length l.c, .string l.o.text, .int .i64 l.o.bits, .int .i64 l.o.hash] 41) e0
      have t2 : (wr.alloc (.cells #[.int .i64 l.o.cls, .int .i64 l.o.kind, .slice l.S l.o.slots.length l.c, .string l.o.text, .int .i64 l.o.bits, .int .i64 l.o.hash] 41)).cell? ⟨wr.heap.size, 2, none⟩ = some (.slice l.S l.o.slots.length l.c) := by go_simp
      go_region_held3 (fun w' => w'.cell? ⟨w.heap.size, 0, none⟩ = some (.slice (some ⟨g, 0, none⟩) ls.length c1) ∧ w'.cell? ⟨wr.heap.size, 2, none⟩ = some (.slice l.S l.o.slots.length l.c))
        (first | exact ⟨e0', t2⟩ | exact ⟨cell_later hb2 e0', cell_later hb2 t2⟩ | exact ⟨(World.cell?_setCell_other _ _ _ _ (by intro e; injection e with e1; omega)).trans (cell_later hb2 e0'), (World.cell?_setCell_other _ _ _ _ (by intro e; injection e with e1; omega)).trans (cell_later hb2 t2)⟩)
        (first | (go_at_call 72; refine (clone1_any l.S l.o.slots l.c _ ((HI.out.below HA.out).below (Below.refl _ _).drew) (by omega)).mono ?_; rintro e w2 ⟨A2, c2, rfl, hown2, hb2⟩; have x2 := cell_later hb2 (cell_later (Below.refl _ _).drew (cell_later HA.out q2)); have y2 := ((own_later (own_later (own_later HC'.out.row HA.out) (Below.refl _ _).drew) hb2).frozenAt (k * 6 + 2))))
      go_wp2_with fail
      go_roundw
      case rel =>
        have HX := (HC'.out.later HA.out).later ((Below.refl _ _).drew.trans hb2)
        have HBA : Below wr.heap.size wr w2 := HA.out.trans (((Below.refl _ _).drew.trans hb2).mono (by simp))
        refine ⟨k + 1, cur.set k ⟨l.o, A2, c2⟩, by omega, by go_num, HX.step (HLl.out ▸ HCK.out) hown2 ?_ ?_, ?_, ?_, ?_, ?_⟩
        · simp; omega
        · intro i li a hi hli ha
          have := HC'.out.blk_lt hi hli ha
          simp; omega
        · exact (HB0.out.later HBA).far hgB.symm _
        · exact (HB1.out.later HBA).far (by show w.heap.size + 1 ≠ g; omega) _
        · exact (HBW.out.trans (HBA.mono HBW.out.size)).setCell (by show w.heap.size ≤ g; omega) _
        · have := HBA.size
          simp; omega
      case measure => simp [intOf]; omega
    · have hkn : k = ls.length := by omega
      subst hkn
      obtain ⟨g0, g1, g2⟩ := b1.c3
      obtain ⟨h0, h1, h2⟩ := b1.f3
      clear b1
      go_wp2
      have K0 : Lies (((wr.setCell ⟨w.heap.size + 1, 0, none⟩ (.slice A1 ls.length c1)).setCell ⟨w.heap.size + 1, 1, none⟩ (.int .i64 cap)).setCell ⟨w.heap.size + 1, 2, none⟩ (.int .i64 last)) (w.heap.size + 1) 24 #[.slice A1 ls.length c1, .int .i64 cap, .int .i64 last] := by
        simpa using (((HB1.out.set_ 0 (.slice A1 ls.length c1)).set_ 1 (.int .i64 cap)).set_ 2 (.int .i64 last))
      obtain ⟨r0, r1, r2⟩ := K0.c3
      refine bodyPost_ret (v := .agg #[.slice A1 ls.length c1, .int .i64 cap, .int .i64 last]) (by simp [results, Tryz.results214, go_sem, r0, r1, r2]) rfl ⟨A1, c1, cur, rfl, HC'.out.same, ?_, ?_⟩
      · exact (((HC'.out.low (p := ⟨w.heap.size + 1, 0, none⟩) (by simp) _).low (p := ⟨w.heap.size + 1, 1, none⟩) (by simp) _).low (p := ⟨w.heap.size + 1, 2, none⟩) (by simp) _).fin (by omega)
      · exact ((HBW.out.setCell (p := ⟨w.heap.size + 1, 0, none⟩) (by simp) _).setCell (p := ⟨w.heap.size + 1, 1, none⟩) (by simp) _).setCell (p := ⟨w.heap.size + 1, 2, none⟩) (by simp) _
end Go.Proofs.YtnilempeldlieaaGreat
namespace Go.Proofs.YtnilempeldlieaaGreat
open Go.RowKit
structure BoxO (w : World) (b : Nat) (o : Ob) (S : Option Addr) (d : Nat) : Prop where
  b0 : w.cell? ⟨b, 0, none⟩ = some (.int .i64 o.cls)
  b1 : w.cell? ⟨b, 1, none⟩ = some (.int .i64 o.kind)
  b2 : w.cell? ⟨b, 2, none⟩ = some (.slice S o.slots.length d)
  b3 : w.cell? ⟨b, 3, none⟩ = some (.string o.text)
  b4 : w.cell? ⟨b, 4, none⟩ = some (.int .i64 o.bits)
  b5 : w.cell? ⟨b, 5, none⟩ = some (.int .i64 o.hash)
theorem BoxO.later {w w' : World} {b : Nat} {o : Ob} {S : Option Addr} {d : Nat} (k : BoxO w b o S d) (hb : Below w.heap.size w w') : BoxO w' b o S d :=
  ⟨cell_later hb k.b0, cell_later hb k.b1, cell_later hb k.b2, cell_later hb k.b3, cell_later hb k.b4, cell_later hb k.b5⟩
theorem BoxH.later {w w' : World} {b : Nat} {h : Hp} {A : Option Addr} {c : Nat} (k : BoxH w b h A c) (hb : Below w.heap.size w w') : BoxH w' b h A c :=
  ⟨cell_later hb k.b0, cell_later hb k.b1, cell_later hb k.b2⟩
theorem BoxO.new (w : World) (o : Ob) (S : Option Addr) (d : Nat) : BoxO (w.alloc (.cells #[.int .i64 o.cls, .int .i64 o.kind, .slice S o.slots.length d, .string o.text, .int .i64 o.bits, .int .i64 o.hash] 41)) w.heap.size o S d :=
  ⟨by go_simp, by go_simp, by go_simp, by go_simp, by go_simp, by go_simp⟩
theorem below_drewN (w : World) (n : Nat) : Below w.heap.size w (w.drewN n) := ⟨rfl, rfl, rfl, Nat.le_refl _, fun _ _ => rfl⟩
theorem below_go {B : Nat} {w0 w w' : World} (h : Below B w0 w) (hB : B ≤ w.heap.size) (hb : Below w.heap.size w w') : Below B w0 w' := h.trans (hb.mono hB)

set_option maxRecDepth 100000 in
set_option maxHeartbeats 4000000 in
theorem one_same (o : Ob) (S T : Option Addr) (d t : Nat) (w : World) (hs : IntsR w S o.slots) (ht : IntsR w T o.slots) (hl : o.slots.length ≤ 9223372036854775807) :
    Calls Tryz.prog 48 #[.agg #[.int .i64 o.cls, .int .i64 o.kind, .slice S o.slots.length d, .string o.text, .int .i64 o.bits, .int .i64 o.hash], .agg #[.int .i64 o.cls, .int .i64 o.kind, .slice T o.slots.length t, .string o.text, .int .i64 o.bits, .int .i64 o.hash]] w fun e w' => e = .returned (.bool true) ∧ Below w.heap.size w w' := by
  have HB0 := hid (below_alloc2 w (.cells #[.int .i64 o.cls, .int .i64 o.kind, .slice S o.slots.length d, .string o.text, .int .i64 o.bits, .int .i64 o.hash] 41) (.cells #[.int .i64 o.cls, .int .i64 o.kind, .slice T o.slots.length t, .string o.text, .int .i64 o.bits, .int .i64 o.hash] 41))
  have HX := hid ((BoxO.new w o S d).later (below_alloc _ (.cells #[.int .i64 o.cls, .int .i64 o.kind, .slice T o.slots.length t, .string o.text, .int .i64 o.bits, .int .i64 o.hash] 41)))
  have HY := hid (BoxO.new (w.alloc (.cells #[.int .i64 o.cls, .int .i64 o.kind, .slice S o.slots.length d, .string o.text, .int .i64 o.bits, .int .i64 o.hash] 41)) o T t)
  have HS := hid hs
  have HT := hid ht
  clear hs ht
  go_enter Tryz.func48, Tryz.ntmps48
  go_wp2
  go_loopw [5] (fun i wr => ∃ k : Nat, k ≤ o.slots.length ∧ i = .int .i64 k ∧ Below w.heap.size w wr ∧ BoxO wr w.heap.size o S d ∧ BoxO wr (w.heap.size + 1) o T t) (fun i _ => o.slots.length - (intOf i).toNat)
  case atStart => exact ⟨0, Nat.zero_le _, rfl, HB0.out, HX.out, by simpa using HY.out⟩
  case round =>
    obtain ⟨k, hk, rfl, hbw, hX, hY⟩ := hrel
    have HW := hid hbw
    have HX' := hid hX
    have HY' := hid hY
    clear hbw HX HY
    obtain ⟨-, -, e2, -, -, -⟩ := hX
    obtain ⟨-, -, f2, -, -, -⟩ := hY
    by_cases hlt : k < o.slots.length
    · obtain ⟨bs, os, rfl, hbs, hcs⟩ := HS.out (by omega)
      obtain ⟨bt, ot, rfl, hbt, hct⟩ := HT.out (by omega)
      have hcell : wr.cell? ⟨bs, os + k, none⟩ = some (.int .i64 o.slots[k]) := (HW.out.cell (p := ⟨bs, os + k, none⟩) hbs).trans (hcs k _ (List.getElem?_eq_getElem hlt))
      have hcelt : wr.cell? ⟨bt, ot + k, none⟩ = some (.int .i64 o.slots[k]) := (HW.out.cell (p := ⟨bt, ot + k, none⟩) hbt).trans (hct k _ (List.getElem?_eq_getElem hlt))
      clear hcs hct
      go_wp2
      go_quiet (fail)
      go_wp2
      go_roundw
      case rel => exact ⟨k + 1, by omega, by go_num, below_go HW.out HW.out.size (below_drewN _ _), HX'.out.later (below_drewN _ _), HY'.out.later (below_drewN _ _)⟩
      case measure => simp [intOf]; omega
    · go_wp2
      go_ret
      exact ⟨rfl, HW.out⟩

set_option maxRecDepth 100000 in
set_option maxHeartbeats 4000000 in
theorem same_any (h : Hp) (A A' : Option Addr) (c c' : Nat) (w : World) (hs : ObsR w A h.objs) (ht : ObsR w A' h.objs) (fit : h.Fit) :
    Calls Tryz.prog 24 #[.agg #[.slice A h.objs.length c, .int .i64 h.cap, .int .i64 h.last], .agg #[.slice A' h.objs.length c', .int .i64 h.cap, .int .i64 h.last]] w fun e w' => e = .returned (.bool true) ∧ Below w.heap.size w w' := by
  have HB0 := hid (below_alloc2 w (.cells #[Value.slice A h.objs.length c, Value.int .i64 h.cap, Value.int .i64 h.last] 24) (.cells #[Value.slice A' h.objs.length c', Value.int .i64 h.cap, Value.int .i64 h.last] 24))
  have HX := hid ((BoxH.new w h A c).later (below_alloc _ (.cells #[Value.slice A' h.objs.length c', Value.int .i64 h.cap, Value.int .i64 h.last] 24)))
  have HY := hid (BoxH.new (w.alloc (.cells #[Value.slice A h.objs.length c, Value.int .i64 h.cap, Value.int .i64 h.last] 24)) h A' c')
  have HS := hid hs
  have HT := hid ht
  have HF := hid fit
  have hl : h.objs.length ≤ 9223372036854775807 := fit.1
  clear hs ht fit
  go_enter Tryz.func24, Tryz.ntmps24
  go_wp2
  go_loopw [5] (fun i wr => ∃ k : Nat, k ≤ h.objs.length ∧ i = .int .i64 k ∧ Below w.heap.size w wr ∧ BoxH wr w.heap.size h A c ∧ BoxH wr (w.heap.size + 1) h A' c') (fun i _ => h.objs.length - (intOf i).toNat)
  case atStart => exact ⟨0, Nat.zero_le _, rfl, HB0.out, HX.out, by simpa using HY.out⟩
  case round =>
    obtain ⟨k, hk, rfl, hbw, hX, hY⟩ := hrel
    have HW := hid hbw
    have HX' := hid hX
    have HY' := hid hY
    clear hbw HX HY
    obtain ⟨e0, -, -⟩ := hX
    obtain ⟨f0, -, -⟩ := hY
    by_cases hlt : k < h.objs.length
    · obtain ⟨bs, os, rfl, hbs, hcs⟩ := HS.out (by omega)
      obtain ⟨bt, ot, rfl, hbt, hct⟩ := HT.out (by omega)
      obtain ⟨S, d, hob, hin, _⟩ := hcs k _ (List.getElem?_eq_getElem hlt)
      obtain ⟨T, t, hob', hin', _⟩ := hct k _ (List.getElem?_eq_getElem hlt)
      obtain ⟨c0, c1, c2, c3, c4, c5⟩ := hob.below hbs HW.out
      obtain ⟨d0, d1, d2, d3, d4, d5⟩ := hob'.below hbt HW.out
      have HI := hid (hin.below HW.out)
      have HI' := hid (hin'.below HW.out)
      have hol := HF.out.slots (List.getElem_mem hlt)
      obtain ⟨o, ho⟩ : ∃ o, o = h.objs[k] := ⟨_, rfl⟩
      rw [← ho] at c0 c1 c2 c3 c4 c5 d0 d1 d2 d3 d4 d5 HI HI' hol
      clear hcs hct hob hob' hin hin' ho
      go_wp2
      go_region_held3 (fun w' => w'.cell? ⟨w.heap.size, 0, none⟩ = some (.slice (some ⟨bs, os, none⟩) h.objs.length c) ∧ w'.cell? ⟨w.heap.size + 1, 0, none⟩ = some (.slice (some ⟨bt, ot, none⟩) h.objs.length c') ∧
          w'.cell? ⟨bs, os + k * 6, none⟩ = some (.int .i64 o.cls) ∧ w'.cell? ⟨bs, os + k * 6 + 1, none⟩ = some (.int .i64 o.kind) ∧ w'.cell? ⟨bs, os + k * 6 + 2, none⟩ = some (.slice S o.slots.length d) ∧ w'.cell? ⟨bs, os + k * 6 + 3, none⟩ = some (.string o.text) ∧ w'.cell? ⟨bs, os + k * 6 + 4, none⟩ = some (.int .i64 o.bits) ∧ w'.cell? ⟨bs, os + k * 6 + 5, none⟩ = some (.int .i64 o.hash) ∧
          w'.cell? ⟨bt, ot + k * 6, none⟩ = some (.int .i64 o.cls) ∧ w'.cell? ⟨bt, ot + k * 6 + 1, none⟩ = some (.int .i64 o.kind) ∧ w'.cell? ⟨bt, ot + k * 6 + 2, none⟩ = some (.slice T o.slots.length t) ∧ w'.cell? ⟨bt, ot + k * 6 + 3, none⟩ = some (.string o.text) ∧ w'.cell? ⟨bt, ot + k * 6 + 4, none⟩ = some (.int .i64 o.bits) ∧ w'.cell? ⟨bt, ot + k * 6 + 5, none⟩ = some (.int .i64 o.hash))
        (first | exact ⟨e0, f0, c0, c1, c2, c3, c4, c5, d0, d1, d2, d3, d4, d5⟩ | exact ⟨cell_later hb e0, cell_later hb f0, cell_later hb c0, cell_later hb c1, cell_later hb c2, cell_later hb c3, cell_later hb c4, cell_later hb c5, cell_later hb d0, cell_later hb d1, cell_later hb d2, cell_later hb d3, cell_later hb d4, cell_later hb d5⟩)
        (first | (go_at_call 48; refine (one_same o S T d t _ (HI.out.below (Below.refl _ _).drew) (HI'.out.below (Below.refl _ _).drew) hol).mono ?_; rintro e w' ⟨rfl, hb⟩))
      go_wp2
      go_roundw
      case rel => exact ⟨k + 1, by omega, by go_num, below_go HW.out.drew HW.out.size hb, HX'.out.later ((Below.refl _ _).drew.trans hb), HY'.out.later ((Below.refl _ _).drew.trans hb)⟩
      case measure => simp [intOf]; omega
    · go_wp2
      go_ret
      exact ⟨rfl, HW.out⟩
end Go.Proofs.YtnilempeldlieaaGreat
