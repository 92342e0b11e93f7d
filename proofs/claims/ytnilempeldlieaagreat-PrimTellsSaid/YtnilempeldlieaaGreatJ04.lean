/- The document's Copy: the same heap in memory of the call's own. Steps of a drawn region, in fewer words. -/
import Derived.Test.YtnilempeldlieaaGreatJ03
import Derived.Laws.AppendOwnNone
import Derived.Test.YtnilempeldlieaaGreatJ01
namespace Go.Proofs.YtnilempeldlieaaGreat
open Go.RowKit
theorem apart_row {w : World} {base b : Nat} {A1 : Option Addr} {n1 c1 n : Nat} {v : Value} {xs ys : List Value} (hr : w.ownsRow base 41 6 (.slice A1 n1 c1) n1 xs) (hi : w.ownsRow b 3 1 v n ys) :
    v.ownBlock = none ∨ v.ownBlock ≠ (Value.slice A1 n1 c1).ownBlock := by
  cases A1 with
  | none => cases hv : v.ownBlock <;> simp [Value.ownBlock]
  | some a =>
    obtain ⟨cur, hB, _, _, _⟩ := own_blk (b := a.block) (o := a.off) (s := a.spot) hr
    exact .inr (own_blk_ne hi hB (by decide))
theorem OwnH.push {w w2 : World} {base b : Nat} {A1 A2 : Option Addr} {c1 c2 : Nat} {cur : List LO} {l : LO} (h : OwnH w base A1 c1 cur)
    (hS : w.ownsRow b 3 1 (.slice l.S l.o.slots.length l.c) l.o.slots.length (l.o.slots.map (Value.int .i64))) (hb : base ≤ b)
    (hnew : ∀ (i : Nat) (li : LO) (a : Addr), cur[i]? = some li → li.S = some a → a.block < b)
    (hrow : w2.ownsRow base 41 6 (.slice A2 (cur.length + 1) c2) (cur.length + 1) (rowOf cur ++ l.cells)) (hg : w.grownBy w2 (Value.slice A1 cur.length c1).ownBlock) : OwnH w2 base A2 c2 (cur ++ [l]) := by
  refine ⟨?_, fun i m hm => ?_, fun i j li lj a b' hi hj hij ha hb' => ?_⟩
  · rw [List.length_append, rowOf_append]
    simpa [rowOf] using hrow
  · by_cases e : i < cur.length
    · rw [List.getElem?_append_left e] at hm
      have h3 := h.ints i m hm
      exact h3.kept hg (apart_row h.row h3)
    · rw [List.getElem?_append_right (by omega)] at hm
      have : m = l := by
        cases e2 : i - cur.length with
        | zero => rw [e2] at hm; simpa using hm.symm
        | succ t => rw [e2] at hm; simp at hm
      subst this
      exact own_lower (hS.kept hg (apart_row h.row hS)) hb
  · by_cases e : j < cur.length
    · rw [List.getElem?_append_left (by omega)] at hi
      rw [List.getElem?_append_left e] at hj
      exact h.apart i j li lj a b' hi hj hij ha hb'
    · rw [List.getElem?_append_right (by omega)] at hj
      have hjl : j - cur.length = 0 := by
        cases e2 : j - cur.length with
        | zero => rfl
        | succ t => rw [e2] at hj; simp at hj
      rw [hjl] at hj
      obtain rfl : l = lj := by simpa using hj
      rw [List.getElem?_append_left (by omega)] at hi
      have h1 := hnew i li a hi ha
      have hb2 : l.S = some b' := hb'
      rw [hb2] at hS
      obtain ⟨_, _, _, _, h2⟩ := own_blk (b := b'.block) (o := b'.off) (s := b'.spot) hS
      omega
theorem OwnH.blk_lt {w : World} {base : Nat} {A1 : Option Addr} {c1 : Nat} {cur : List LO} (h : OwnH w base A1 c1 cur) {i : Nat} {li : LO} {a : Addr} (hl : cur[i]? = some li) (ha : li.S = some a) : a.block < w.heap.size := by
  have h1 := h.ints i li hl
  rw [ha] at h1
  exact (h1.lt a.block rfl).2
theorem OwnH.nil (w : World) (base : Nat) : OwnH w base none 0 [] :=
  ⟨World.ownsRow_nil _ _ _ _, fun i l hl => by simp at hl, fun i j li lj a b hi => by simp at hi⟩
theorem OwnH.low {w : World} {base : Nat} {A1 : Option Addr} {c1 : Nat} {cur : List LO} (h : OwnH w base A1 c1 cur) {p : Addr} (hp : p.block < base) (u : Value) : OwnH (w.setCell p u) base A1 c1 cur :=
  ⟨ownsRow_setCell_below h.row hp u, fun i l hl => ownsRow_setCell_below (h.ints i l hl) hp u, h.apart⟩
theorem OwnH.lower {w : World} {base B : Nat} {A1 : Option Addr} {c1 : Nat} {cur : List LO} (h : OwnH w base A1 c1 cur) (hB : B ≤ base) : OwnH w B A1 c1 cur :=
  ⟨own_lower h.row hB, fun i l hl => own_lower (h.ints i l hl) hB, h.apart⟩
theorem Lies.grown {w w' : World} {g : Nat} {t : TypeId} {cs : Array Value} {row : Option Nat} (h : Lies w g t cs) (hb : w.grownBy w' row) (hg : some g ≠ row) : Lies w' g t cs := (hb.block g h.lt hg).trans h

theorem grown_refl (w : World) (row : Option Nat) : w.grownBy w row := ⟨rfl, rfl, rfl, Nat.le_refl _, fun _ _ _ => rfl⟩
theorem ints_none {w : World} {S : Option Addr} {xs : List Int} (h : IntsR w S xs) (hS : S = none) : xs = [] := by
  cases xs with
  | nil => rfl
  | cons x t => obtain ⟨b, o, e, _⟩ := h (by simp); rw [hS] at e; cases e
theorem wpList_append_ints {P : Program} {w : World} {ops : Array Oper} {rest : List Oper} {o : Oper} {a : Act} {Q : Exit → Act → World → Prop} (hgd : o.guard = none) (s x : Operand) (t : TypeId)
    (ho : o.op = .call { callee := .builtin .append, args := #[s, x], argTypes := #[t, t] })
    (base : Nat) (i : TypeInfo) (ht : P.underlying t = some (.slice 3)) (hi : P.info? 3 = some i) (hz : i.zero = some (.int .i64 0)) (hsize : i.size = 1) (hby : i.bytes = 8)
    (v : Value) (n : Nat) (ys : List Value) (hs : a.eval s = v) (hown : w.ownsRow base 3 1 v n ys)
    (S : Option Addr) (c : Nat) (xs : List Int) (hx : a.eval x = .slice S xs.length c) (hr : IntsR w S xs) (hn : S = none → c = 0)
    (h63 : n + xs.length ≤ 1000000) (hbase : base ≤ w.heap.size)
    (h : ∀ v' w', w'.ownsRow base 3 1 v' (n + xs.length) (ys ++ xs.map (Value.int .i64)) → w.grownBy w' v.ownBlock → wpList P ops Q rest (a.put o.dst v') w') : wpList P ops Q (o :: rest) a w := by
  cases S with
  | none =>
    have hx0 := ints_none hr rfl
    subst hx0
    rw [hn rfl] at hx
    refine wpList_append_own_none hgd s x t ho base 3 i 1 ht hi v n ys hs hown hx ?_
    exact h v w (by simpa using hown) (grown_refl _ _)
  | some ad =>
    refine wpList_append_own _ hgd s x t ho base 3 i (.int .i64 0) 1 8 ht hi hz hsize hby rfl (by decide) v n ys hs hown ad xs.length c (xs.map (Value.int .i64)) hx (by simp) ?_ ?_ (by unfold maxLen; omega) (by omega) hbase (fun v' w' h1 h2 _ => h v' w' h1 h2)
    · intro j u hj
      have hjn : j < xs.length := by have := (List.getElem?_eq_some_iff.1 hj).1; simpa using this
      obtain ⟨b, o, e, hlt, hc⟩ := hr (by omega)
      cases e
      have := hc j xs[j] (List.getElem?_eq_getElem hjn)
      rw [List.getElem?_map, List.getElem?_eq_getElem hjn] at hj
      cases hj
      rw [Addr.add_lit]
      exact this
    · intro u hu; obtain ⟨x, _, rfl⟩ := List.mem_map.1 hu; rfl
set_option maxRecDepth 100000 in
set_option maxHeartbeats 4000000 in
theorem copy_any (cap last : Int) (A : Option Addr) (c : Nat) (ls : List LO) (w : World) (hs : LaidR w A ls) (hl : ls.length ≤ 256) (hl2 : ∀ l ∈ ls, l.o.slots.length ≤ 64) :
    Calls Tryz.prog 119 #[.agg #[.slice A ls.length c, .int .i64 cap, .int .i64 last]] w fun e w' => ∃ A' c' ls', e = .returned (.agg #[.slice A' ls.length c', .int .i64 cap, .int .i64 last]) ∧ ls'.map (·.o) = ls.map (·.o) ∧ OwnH w' w.heap.size A' c' ls' ∧ Below w.heap.size w w' := by
  have HS := hid hs
  clear hs
  obtain ⟨i0, hi, hz0, hz1, hz2⟩ := info_parts int_info
  obtain ⟨j0, hj, hy0, hy1, hy2⟩ := info_parts obj_info
  have HB : Hid (Below w.heap.size w (((w.alloc (.cells #[.slice A ls.length c, .int .i64 cap, .int .i64 last] 24)).alloc (.cells #[.slice none 0 0, .int .i64 0, .int .i64 0] 24)).alloc (.cells #[.slice none 0 0, .int .i64 cap, .int .i64 last] 24))) :=
    (below_alloc2 w _ _).alloc (by simp; omega) _
  have b0 := hid (((Lies.new w 24 #[.slice A ls.length c, .int .i64 cap, .int .i64 last]).alloc (.cells #[.slice none 0 0, .int .i64 0, .int .i64 0] 24)).alloc (.cells #[.slice none 0 0, .int .i64 cap, .int .i64 last] 24))
  have b1 := hid ((Lies.new (w.alloc (.cells #[.slice A ls.length c, .int .i64 cap, .int .i64 last] 24)) 24 #[.slice none 0 0, .int .i64 0, .int .i64 0]).alloc (.cells #[.slice none 0 0, .int .i64 cap, .int .i64 last] 24))
  have b2 := hid (Lies.new ((w.alloc (.cells #[.slice A ls.length c, .int .i64 cap, .int .i64 last] 24)).alloc (.cells #[.slice none 0 0, .int .i64 0, .int .i64 0] 24)) 24 #[.slice none 0 0, .int .i64 cap, .int .i64 last])
  go_enter Tryz.func119, Tryz.ntmps119
  go_wp2_with fail
  go_loopw [4] (fun i wr => ∃ (k : Nat) (cur : List LO) (A1 : Option Addr) (c1 : Nat), k ≤ ls.length ∧ i = .int .i64 k ∧ cur.length = k ∧ cur.map (·.o) = (ls.take k).map (·.o) ∧ OwnH wr (w.heap.size + 3) A1 c1 cur ∧ Lies wr w.heap.size 24 #[.slice A ls.length c, .int .i64 cap, .int .i64 last] ∧ Lies wr (w.heap.size + 1) 24 #[.slice none 0 0, .int .i64 0, .int .i64 0] ∧ Lies wr (w.heap.size + 1 + 1) 24 #[.slice A1 k c1, .int .i64 cap, .int .i64 last] ∧ Below w.heap.size w wr ∧ w.heap.size + 3 ≤ wr.heap.size) (fun i _ => ls.length - (intOf i).toNat)
  case atStart => exact ⟨0, [], none, 0, Nat.zero_le _, rfl, rfl, rfl, OwnH.nil _ _, b0.out, by simpa using b1.out, by simpa using b2.out, HB.out, by simp⟩
  case round =>
    obtain ⟨k, cur, A1, c1, hk, rfl, hcl, hcm, hO, q0, q1, q2, hbw, hz⟩ := hrel
    have HO := hid hO
    have HCL := hid hcl
    have HCM := hid hcm
    have Q0 := hid q0
    have Q1 := hid q1
    have Q2 := hid q2
    have HW := hid hbw
    have e0 := q0.cell 0
    have g0 := q2.cell 0
    have g1 := q2.cell 1
    have g2 := q2.cell 2
    have f0 := q2.frozen 0
    simp only [List.getElem?_toArray, List.getElem?_cons_zero, List.getElem?_cons_succ] at e0 g0 g1 g2
    clear hO hcl hcm q0 q2 hbw b0 b1 b2 HB
    by_cases hlt : k < ls.length
    · obtain ⟨bs, off, rfl, hbs, hcs⟩ := HS.out.row (by omega)
      have hlk : ls[k]? = some ls[k] := List.getElem?_eq_getElem hlt
      have q := fun j (hj : j < 6) u (hu : ls[k].cells[j]? = some u) => (HW.out.cell (p := ⟨bs, off + (k * 6 + j), none⟩) hbs).trans (hcs (k * 6 + j) u ((rowOf_get ls k j _ hlk hj).trans hu))
      have q0 := q 0 (by omega) _ rfl
      have q1 := q 1 (by omega) _ rfl
      have q2 := q 2 (by omega) _ rfl
      have q3 := q 3 (by omega) _ rfl
      have q4 := q 4 (by omega) _ rfl
      have q5 := q 5 (by omega) _ rfl
      simp only [Nat.add_zero, ← Nat.add_assoc] at q0 q1 q2 q3 q4 q5
      have hin := hid (HS.out.ints _ (List.getElem_mem hlt))
      have hnil := hid (HS.out.nils _ (List.getElem_mem hlt))
      have h64 := hl2 _ (List.getElem_mem hlt)
      obtain ⟨l, hll⟩ : ∃ l, l = ls[k] := ⟨_, rfl⟩
      rw [← hll] at q0 q1 q2 q3 q4 q5 hin hnil h64
      have HLL := hid hll
      clear q hcs hlk hll
      have HA := hid (below_alloc wr (.cells #[.int .i64 l.o.cls, .int .i64 l.o.kind, .slice l.S l.o.slots.length l.c, .string l.o.text, .int .i64 l.o.bits, .int .i64 l.o.hash] 41))
      have kb := Lies.new wr 41 #[.int .i64 l.o.cls, .int .i64 l.o.kind, .slice l.S l.o.slots.length l.c, .string l.o.text, .int .i64 l.o.bits, .int .i64 l.o.hash]
      have KB := hid kb
      clear kb
      have hmade : ((wr.alloc (.cells #[.int .i64 l.o.cls, .int .i64 l.o.kind, .slice l.S l.o.slots.length l.c, .string l.o.text, .int .i64 l.o.bits, .int .i64 l.o.hash] 41)).alloc (.cells #[] 3)).ownsRow (wr.heap.size + 1) 3 1 (.slice (some ⟨wr.heap.size + 1, 0, none⟩) 0 0) 0 [] := by
        have := World.ownsRow_made (e := 3) (size := 1) (base := wr.heap.size + 1) (wr.alloc (.cells #[.int .i64 l.o.cls, .int .i64 l.o.kind, .slice l.S l.o.slots.length l.c, .string l.o.text, .int .i64 l.o.bits, .int .i64 l.o.hash] 41)) #[] 0 (by simp) (Nat.zero_le _) rfl
        simpa using this
      have HMD := hid hmade
      clear hmade
      have HIN2 := hid (((hin.out.below HW.out).below HA.out).below (below_alloc (wr.alloc (.cells #[.int .i64 l.o.cls, .int .i64 l.o.kind, .slice l.S l.o.slots.length l.c, .string l.o.text, .int .i64 l.o.bits, .int .i64 l.o.hash] 41)) (.cells #[] 3)))
      go_wp2_with (at_builtin; refine wpList_append_ints rfl (.tmp 23) (.tmp 25) 34 rfl (wr.heap.size + 1) i0 Tryz.underlying34 hi hz0 hz1 hz2 _ _ _ rfl HMD.out l.S l.c l.o.slots rfl HIN2.out hnil.out (by omega) (by simp) ?_)
      intro v1 w1 hown1 hgrow1
      obtain ⟨A3, c3, rfl⟩ := own_form hown1
      try simp only [Nat.zero_add, List.nil_append] at hown1
      have hb1 : Below (wr.alloc (.cells #[.int .i64 l.o.cls, .int .i64 l.o.kind, .slice l.S l.o.slots.length l.c, .string l.o.text, .int .i64 l.o.bits, .int .i64 l.o.hash] 41)).heap.size (wr.alloc (.cells #[.int .i64 l.o.cls, .int .i64 l.o.kind, .slice l.S l.o.slots.length l.c, .string l.o.text, .int .i64 l.o.bits, .int .i64 l.o.hash] 41)) w1 := (below_alloc _ _).grown hgrow1 (by simp) (by intro r hr; simp [Value.ownBlock] at hr; simp; omega)
      have x0 := cell_later hb1 (cell_old g0)
      have k3 := (KB.out).later hb1
      have y0 := k3.cell 0
      have y1 := k3.cell 1
      have y3 := k3.cell 3
      have y4 := k3.cell 4
      have y5 := k3.cell 5
      have y2 := k3.cell 2
      have z2 := k3.frozen 2
      simp only [List.getElem?_toArray, List.getElem?_cons_zero, List.getElem?_cons_succ] at y0 y1 y2 y3 y4 y5
      have H1 := hid hown1
      have HB1 := hid hb1
      have K3 := hid k3
      clear hown1 hgrow1 hb1 k3 q0 q1 q2 q3 q4 q5 e0 g0 g1 g2
      have hz1 : wr.heap.size + 1 ≤ w1.heap.size := by have := HB1.out.size; simpa using this
      have HO1 : OwnH w1 (w.heap.size + 3) A1 c1 cur := (HO.out.later HA.out).later HB1.out
      have HK1 := hid (((Q0.out.later HA.out).later HB1.out).far (p := ⟨wr.heap.size, 2, none⟩) (by have := Q0.out.lt; simp; omega) (.slice A3 l.o.slots.length c3))
      have HK2 := hid (((Q1.out.later HA.out).later HB1.out).far (p := ⟨wr.heap.size, 2, none⟩) (by have := Q1.out.lt; simp; omega) (.slice A3 l.o.slots.length c3))
      have HK3 := hid (((Q2.out.later HA.out).later HB1.out).far (p := ⟨wr.heap.size, 2, none⟩) (by have := Q2.out.lt; simp; omega) (.slice A3 l.o.slots.length c3))
      have HO2 : Hid (OwnH ((w1.setCell ⟨wr.heap.size, 2, none⟩ (.slice A3 l.o.slots.length c3)).alloc (.cells #[.int .i64 l.o.cls, .int .i64 l.o.kind, .slice A3 l.o.slots.length c3, .string l.o.text, .int .i64 l.o.bits, .int .i64 l.o.hash] 41)) (w.heap.size + 3) A1 c1 cur) := by
        refine OwnH.later (w := (w1.setCell ⟨wr.heap.size, 2, none⟩ (.slice A3 l.o.slots.length c3))) ⟨ownsRow_setCell_other HO1.row ?_ _, fun i m hm => ownsRow_setCell_other (HO1.ints i m hm) ?_ _, HO1.apart⟩ (below_alloc _ _)
        · intro e
          have := (HO.out.row.lt _ e).2
          simp at this
        · exact own_blk_ne (HO1.ints i m hm) K3.out (by decide)
      have HI2 : Hid (((w1.setCell ⟨wr.heap.size, 2, none⟩ (.slice A3 l.o.slots.length c3)).alloc (.cells #[.int .i64 l.o.cls, .int .i64 l.o.kind, .slice A3 l.o.slots.length c3, .string l.o.text, .int .i64 l.o.bits, .int .i64 l.o.hash] 41)).ownsRow (wr.heap.size + 1) 3 1 (.slice A3 l.o.slots.length c3) l.o.slots.length (l.o.slots.map (Value.int .i64))) :=
        own_later (ownsRow_setCell_other H1.out (own_blk_ne H1.out K3.out (by decide)) _) (below_alloc _ _)
      have hrow2 : ((w1.setCell ⟨wr.heap.size, 2, none⟩ (.slice A3 l.o.slots.length c3)).alloc (.cells #[.int .i64 l.o.cls, .int .i64 l.o.kind, .slice A3 l.o.slots.length c3, .string l.o.text, .int .i64 l.o.bits, .int .i64 l.o.hash] 41)).ownsRow (w.heap.size + 3) 41 6 (.slice A1 k c1) k (rowOf cur) := by have := HO2.out.row; rwa [HCL.out] at this
      have HR2 := hid hrow2
      have hs1 : (w1.setCell ⟨wr.heap.size, 2, none⟩ (.slice A3 l.o.slots.length c3)).heap.size = w1.heap.size := by simp
      have HN2 : Hid (∀ j u, (LO.mk l.o A3 c3).cells[j]? = some u → ((w1.setCell ⟨wr.heap.size, 2, none⟩ (.slice A3 l.o.slots.length c3)).alloc (.cells #[.int .i64 l.o.cls, .int .i64 l.o.kind, .slice A3 l.o.slots.length c3, .string l.o.text, .int .i64 l.o.bits, .int .i64 l.o.hash] 41)).cell? ((⟨w1.heap.size, 0, none⟩ : Addr).add j) = some u) := by
        intro j u hu
        have := (Lies.new (w1.setCell ⟨wr.heap.size, 2, none⟩ (.slice A3 l.o.slots.length c3)) 41 #[.int .i64 l.o.cls, .int .i64 l.o.kind, .slice A3 l.o.slots.length c3, .string l.o.text, .int .i64 l.o.bits, .int .i64 l.o.hash]).cell j
        rw [hs1] at this
        rw [Addr.add_lit, Nat.zero_add, this]
        simpa [LO.cells] using hu
      have HN23 : Hid (∀ u ∈ (LO.mk l.o A3 c3).cells, u.oneCell' = true) := by
        intro u hu
        simp [LO.cells] at hu
        rcases hu with rfl | rfl | rfl | rfl | rfl | rfl <;> rfl
      have HL6 : Hid ((LO.mk l.o A3 c3).cells.length = 1 * 6) := rfl
      have hsz2 : w.heap.size + 3 ≤ ((w1.setCell ⟨wr.heap.size, 2, none⟩ (.slice A3 l.o.slots.length c3)).alloc (.cells #[.int .i64 l.o.cls, .int .i64 l.o.kind, .slice A3 l.o.slots.length c3, .string l.o.text, .int .i64 l.o.bits, .int .i64 l.o.hash] 41)).heap.size := by simp; omega
      have HS2 := hid hsz2
      have hk256 : (k + 1) * 72 ≤ 140737488355328 := by omega
      clear hrow2 HO1 hs1 hsz2
      go_wp2_with (at_builtin; refine wpList_append_own _ rfl (.tmp 29) (.tmp 31) 22 rfl (w.heap.size + 3) 41 j0 (.agg #[.int .i64 0, .int .i64 0, .slice none 0 0, .string ⟨#[]⟩, .int .i64 0, .int .i64 0]) 6 72 Tryz.underlying22 hj hy0 hy1 hy2 rfl (by decide) _ _ _ rfl HR2.out ⟨w1.heap.size, 0, none⟩ 1 1 (LO.mk l.o A3 c3).cells rfl HL6.out HN2.out HN23.out (by unfold maxLen; omega) hk256 HS2.out ?_)
      intro v2 w2 hown2 hgrow2 _
      obtain ⟨A4, c4, rfl⟩ := own_form hown2
      have HG := hid hgrow2
      have HOW := hid hown2
      clear hown2 hgrow2
      have hrb : ∀ g, (Value.slice A1 k c1).ownBlock = some g → w.heap.size + 3 ≤ g := fun g hg => (HR2.out.lt g hg).1
      have kk0 := (HK1.out.alloc (.cells #[.int .i64 l.o.cls, .int .i64 l.o.kind, .slice A3 l.o.slots.length c3, .string l.o.text, .int .i64 l.o.bits, .int .i64 l.o.hash] 41)).grown HG.out (fun e => by have := hrb _ e.symm; omega)
      have kk1 := (HK2.out.alloc (.cells #[.int .i64 l.o.cls, .int .i64 l.o.kind, .slice A3 l.o.slots.length c3, .string l.o.text, .int .i64 l.o.bits, .int .i64 l.o.hash] 41)).grown HG.out (fun e => by have := hrb _ e.symm; omega)
      have kk2 := (HK3.out.alloc (.cells #[.int .i64 l.o.cls, .int .i64 l.o.kind, .slice A3 l.o.slots.length c3, .string l.o.text, .int .i64 l.o.bits, .int .i64 l.o.hash] 41)).grown HG.out (fun e => by have := hrb _ e.symm; omega)
      have n0 := kk2.cell 0
      have m0 := kk2.frozen 0
      simp only [List.getElem?_toArray, List.getElem?_cons_zero] at n0
      have HKK0 := hid kk0
      have HKK1 := hid kk1
      have HKK2 := hid kk2
      have HRB := hid hrb
      clear kk0 kk1 kk2 hrb x0 y0 y1 y2 y3 y4 y5 z2 f0
      go_wp2_with fail
      go_roundw
      case rel =>
        have hbW : Below w.heap.size w w2 := by
          refine Below.grown (w := (w1.setCell ⟨wr.heap.size, 2, none⟩ (.slice A3 l.o.slots.length c3)).alloc (.cells #[.int .i64 l.o.cls, .int .i64 l.o.kind, .slice A3 l.o.slots.length c3, .string l.o.text, .int .i64 l.o.bits, .int .i64 l.o.hash] 41)) ?_ HG.out (by simp; omega) (fun g hg => by have := HRB.out g hg; omega)
          exact (((HW.out.trans (HA.out.mono HW.out.size)).trans (HB1.out.mono (by simp; omega))).setCell (p := ⟨wr.heap.size, 2, none⟩) (by simp; omega) _).alloc (by simp; omega) _
        have hcl := HCL.out
        refine ⟨k + 1, cur ++ [⟨l.o, A3, c3⟩], A4, c4, by omega, by go_num, by simp [hcl], ?_, ?_, ?_, ?_, ?_, ?_, ?_⟩
        · rw [List.take_succ_eq_append_getElem hlt, List.map_append, List.map_append, HCM.out, ← HLL.out]; rfl
        · have := HO2.out.push (l := ⟨l.o, A3, c3⟩) (b := wr.heap.size + 1) (A2 := A4) (c2 := c4) HI2.out (by omega) (fun i li a hi' ha => by have := HO.out.blk_lt hi' ha; omega) (by rw [hcl]; exact HOW.out) (by rw [hcl]; exact HG.out)
          exact this.low (p := ⟨w.heap.size + 1 + 1, 0, none⟩) (by simp) _
        · exact HKK0.out.far (by show _ ≠ w.heap.size + 1 + 1; omega) _
        · exact HKK1.out.far (by show _ ≠ w.heap.size + 1 + 1; omega) _
        · simpa using HKK2.out.set_ 0 (.slice A4 (k + 1) c4)
        · exact hbW.setCell (by simp; omega) _
        · have := HG.out.size
          simp at this ⊢; omega
      case measure => simp [intOf]; omega
    · have hkn : k = ls.length := by omega
      obtain ⟨h0, h1, h2⟩ := q1.c3
      obtain ⟨i0, i1, i2⟩ := q1.f3
      rw [hkn] at g0
      have HKN := hid hkn
      clear q1 hkn
      go_wp2
      have K0 : Lies (((wr.setCell ⟨w.heap.size + 1, 0, none⟩ (.slice A1 ls.length c1)).setCell ⟨w.heap.size + 1, 1, none⟩ (.int .i64 cap)).setCell ⟨w.heap.size + 1, 2, none⟩ (.int .i64 last)) (w.heap.size + 1) 24 #[.slice A1 ls.length c1, .int .i64 cap, .int .i64 last] := by
        simpa using (((Q1.out.set_ 0 (.slice A1 ls.length c1)).set_ 1 (.int .i64 cap)).set_ 2 (.int .i64 last))
      obtain ⟨r0, r1, r2⟩ := K0.c3
      refine bodyPost_ret (v := .agg #[.slice A1 ls.length c1, .int .i64 cap, .int .i64 last]) (by simp [results, Tryz.results119, go_sem, r0, r1, r2]) rfl ⟨A1, c1, rfl, cur, ?_, ?_, ?_⟩
      · rw [HCM.out, HKN.out, List.take_length]
      · exact (((HO.out.low (p := ⟨w.heap.size + 1, 0, none⟩) (by simp) _).low (p := ⟨w.heap.size + 1, 1, none⟩) (by simp) _).low (p := ⟨w.heap.size + 1, 2, none⟩) (by simp) _).lower (by omega)
      · exact ((HW.out.setCell (p := ⟨w.heap.size + 1, 0, none⟩) (by simp) _).setCell (p := ⟨w.heap.size + 1, 1, none⟩) (by simp) _).setCell (p := ⟨w.heap.size + 1, 2, none⟩) (by simp) _
end Go.Proofs.YtnilempeldlieaaGreat
namespace Go.Proofs.YtnilempeldlieaaGreat
open Go.RowKit
/-- an operation of a drawn region that comes up first, or is passed over; the one call that is ready -/
theorem tkJ {P : Program} {md : Region.Mode} {ops : Array Oper} {Q : Exit → Act → World → Prop} {S : World → Prop} {fuel : Nat} {listed l' : Array Bool} {a a' : Act} {w : World} {v : Value} (i : Nat) (oi : Oper)
    (h : wpAnyH P md ops Q S fuel l' a' w) (hi : ops[i]? = some oi := by rfl)
    (hk : (Region.noSelect ops && (Region.free md ops listed i && (Region.ready md ops listed).contains i)) = true := by kernel_rfl) (hw : Region.wanted oi (yielded ops a.tmps) = true := by rfl) (hy : ∀ w, S w → (execOp a.eval oi).run P w = .ok (.value v) w := by intro w hSw; (try dsimp only at hSw); go_simp; all_goals with_reducible rfl)
    (hl : listed.setIfInBounds i true = l' := by (try simp only [apt12]); rfl) (ha : a.put oi.dst v = a' := by (try simp only [apt12]); rfl)
    (hQ : ∀ c a w, Q (.panic c) (a.put oi.dst v) w → Q (.panic c) a w := by exact fun _ _ _ h => h) (hS : S w := by assumption) : wpAnyH P md ops Q S (fuel + 1) listed a w := by
  subst hl ha
  exact tk12 hi hk (.inl ⟨hw, hy⟩) h hQ hS
theorem tkP {P : Program} {md : Region.Mode} {ops : Array Oper} {Q : Exit → Act → World → Prop} {S : World → Prop} {fuel : Nat} {listed l' : Array Bool} {a a' : Act} {w : World} (i : Nat) (oi : Oper)
    (h : wpAnyH P md ops Q S fuel l' a' w) (hi : ops[i]? = some oi := by rfl)
    (hk : (Region.noSelect ops && (Region.free md ops listed i && (Region.ready md ops listed).contains i)) = true := by kernel_rfl) (hw : Region.wanted oi (yielded ops a.tmps) = false := by rfl)
    (hl : listed.setIfInBounds i true = l' := by (try simp only [apt12]); rfl) (ha : a.put oi.dst undef = a' := by (try simp only [apt12]); rfl)
    (hQ : ∀ c a w, Q (.panic c) (a.put oi.dst undef) w → Q (.panic c) a w := by exact fun _ _ _ h => h) (hS : S w := by assumption) : wpAnyH P md ops Q S (fuel + 1) listed a w := by
  subst hl ha
  exact tk12 hi hk (.inr ⟨hw, rfl⟩) h hQ hS
theorem rdJ {P : Program} {md : Region.Mode} {ops : Array Oper} {Q : Exit → Act → World → Prop} {S : World → Prop} {fuel : Nat} {listed : Array Bool} {a : Act} {w : World} (i : Nat) (o : Oper)
    (h : ∀ K' : Act → World → Prop, Shut (∀ a w, S w → (S w → wpAnyH P md ops Q S fuel (listed.setIfInBounds i true) a w) → K' a w) → if Region.wanted o (yielded ops a.tmps) = true then Oper.wp P o a w K' Q else K' (a.put o.dst undef) w)
    (hr : Region.ready md ops listed = [i] := by kernel_rfl) (ho : ops[i]? = some o := by rfl) : wpAnyH P md ops Q S (fuel + 1) listed a w :=
  wpAnyH_ready hr (by simp) (AllReadyH.cons ho h AllReadyH.nil)
theorem dcJ {w : World} {p : Addr} {v : Value} (h : w.cell? p = some v) : w.drew.cell? p = some v := cell_later (Below.refl _ _).drew h
end Go.Proofs.YtnilempeldlieaaGreat
