/- The program's clone of a heap: in memory of the call's own, of any heap that is not too large. Slots, written one by one: the program's word. A heap, in which some slots of one object are others: the program's word. -/
import Derived.Test.YtalfbdigjaibkaaGreatS3
import Derived.Test.YtalfbdigjaibkaaGreatTK12
import Derived.Test.YtalfbdigjaibkaaGreatT0
import Derived.Test.YtalfbdigjaibkaaGreatSCE12
import Derived.Test.YtalfbdigjaibkaaGreatSA12
namespace Go.Proofs.YtalfbdigjaibkaaGreat
open Go.RowKit
set_option maxRecDepth 100000
set_option maxHeartbeats 1000000 in
theorem pclone_any12 (cap last : Int) (A : Option Addr) (c : Nat) (ls : List LO) (w : World) (hs : LaidR w A ls) (hl : ls.length ≤ 256) (hl2 : ∀ l ∈ ls, l.o.slots.length ≤ 100000) :
    Calls Tryz.prog 49 #[.agg #[.slice A ls.length c, .int .i64 cap, .int .i64 last]] w fun e w' => ∃ A' c' ls', e = .returned (.agg #[.slice A' ls.length c', .int .i64 cap, .int .i64 last]) ∧ ls'.map (·.o) = ls.map (·.o) ∧ OwnH w' w.heap.size A' c' ls' ∧ Below w.heap.size w w' := by
  have HS := hid hs
  clear hs
  go_enter Tryz.func49, Tryz.ntmps49
  go_wp2_with fail
  refine (clone2_any A ls c _ (HS.out.later (below_alloc2 _ _ _)) hl).mono ?_
  rintro e w1 ⟨A1, c1, rfl, hown, hb⟩
  have HO := hid hown
  have HB := hid hb
  have k0 : Lies w1 w.heap.size 24 #[.slice A ls.length c, .int .i64 cap, .int .i64 last] := ((Lies.new _ _ _).alloc _).later hb
  have k1 : Lies w1 (w.heap.size + 1) 24 #[.slice none 0 0, .int .i64 0, .int .i64 0] := by
    have := (Lies.new (w.alloc (.cells #[.slice A ls.length c, .int .i64 cap, .int .i64 last] 24)) 24 #[.slice none 0 0, .int .i64 0, .int .i64 0]).later hb
    simpa using this
  have e0 := k0.cell 0
  have f0 := k0.frozen 0
  have K0 := hid k0
  have K1 := hid k1
  clear hown hb k0 k1
  go_wp2_with fail
  have k0 := K0.out
  have HK0 := hid (k0.set_ 0 (.slice A1 ls.length c1))
  have HK1 := hid ((K1.out).far (p := ⟨w.heap.size, 0, none⟩) (by simp) (.slice A1 ls.length c1))
  have HC := hid ((CloneK.start (base := w.heap.size + 2) (by simpa using HO.out)).low (p := ⟨w.heap.size, 0, none⟩) (by simp) (.slice A1 ls.length c1))
  have HW : Hid (Below w.heap.size w (w1.setCell ⟨w.heap.size, 0, none⟩ (.slice A1 ls.length c1))) := ((below_alloc2 w _ _).trans (HB.out.mono (by simp; omega))).setCell (Nat.le_refl _) _
  have HZ : Hid (w.heap.size + 2 ≤ (w1.setCell ⟨w.heap.size, 0, none⟩ (.slice A1 ls.length c1)).heap.size) := by
    have := HB.out.size
    show _ ≤ _
    simp at this ⊢; omega
  clear k0 e0 f0
  go_loopw [12] (fun i wr => ∃ k cur, k ≤ ls.length ∧ i = .int .i64 (k : Nat) ∧ CloneK wr (w.heap.size + 2) A1 c1 ls k cur ∧ Lies wr w.heap.size 24 #[.slice A1 ls.length c1, .int .i64 cap, .int .i64 last] ∧ Lies wr (w.heap.size + 1) 24 #[.slice none 0 0, .int .i64 0, .int .i64 0] ∧ Below w.heap.size w wr ∧ w.heap.size + 2 ≤ wr.heap.size) (fun i _ => ls.length - (intOf i).toNat)
  case atStart => exact ⟨0, ls, Nat.zero_le _, rfl, HC.out, HK0.out, HK1.out, HW.out, HZ.out⟩
  case round =>
    obtain ⟨k, cur, hk, rfl, hC, b0, b1, hbw, hz⟩ := hrel
    have HC' := hid hC
    have HB0 := hid b0
    have HB1 := hid b1
    have HBW := hid hbw
    have e0 := b0.cell 0
    have e1 := b0.cell 1
    have e2 := b0.cell 2
    have f0 := b0.frozen 0
    simp only [List.getElem?_toArray, List.getElem?_cons_zero, List.getElem?_cons_succ] at e0 e1 e2
    clear hC b0 hbw HC HK0 HK1 HW HZ K0 K1 HB HO
    by_cases hlt : k < ls.length
    · have hlc : k < cur.length := by rw [HC'.out.len]; exact hlt
      have hck : cur[k]? = some cur[k] := List.getElem?_eq_getElem hlc
      have hlk : cur[k] = ls[k] := by
        have := HC'.out.old k (Nat.le_refl _)
        rw [hck, List.getElem?_eq_getElem hlt] at this
        exact Option.some.inj this
      obtain ⟨g, cg, hv, hg0, hg1⟩ := HC'.out.row.form (by omega)
      simp only [Value.slice.injEq, true_and] at hv
      obtain ⟨rfl, rfl⟩ := hv
      have q := fun j (hj : j < 6) => (HC'.out.row.cellAt (k * 6 + j) (by omega)).trans (rowOf_get cur k j _ hck hj)
      have q0 := q 0 (by omega)
      have q1 := q 1 (by omega)
      have q2 := q 2 (by omega)
      have q3 := q 3 (by omega)
      have q4 := q 4 (by omega)
      have q5 := q 5 (by omega)
      simp only [LO.cells, List.getElem?_cons_zero, List.getElem?_cons_succ, Nat.add_zero] at q0 q1 q2 q3 q4 q5
      obtain ⟨l, hl⟩ : ∃ l, l = cur[k] := ⟨_, rfl⟩
      have HLl := hid hl
      rw [← hl] at q0 q1 q2 q3 q4 q5
      have HLK := hid hlk
      have HCK := hid hck
      clear q hck hlk hl b1
      go_wp2_with fail
      have HI : Hid (IntsR wr l.S l.o.slots) := (HS.out.ints l (by rw [HLl.out]; exact HLK.out ▸ List.getElem_mem hlt)).below HBW.out
      have hl64 := hl2 l (by rw [HLl.out]; exact HLK.out ▸ List.getElem_mem hlt)
      have hgB : g ≠ w.heap.size := by omega
      have HA := hid (below_alloc wr (.cells #[.int .i64 l.o.cls, .int .i64 l.o.kind, .slice l.S l.o.slots.length l.c, .string l.o.text, .int .i64 l.o.bits, .int .i64 l.o.hash] 60))
      have e0' := cell_old (ob := .cells #[.int .i64 l.o.cls, .int .i64 l.o.kind, .slice l.S l.o.slots.length l.c, .string l.o.text, .int .i64 l.o.bits, .int .i64 l.o.hash] 60) e0
      have t2 : (wr.alloc (.cells #[.int .i64 l.o.cls, .int .i64 l.o.kind, .slice l.S l.o.slots.length l.c, .string l.o.text, .int .i64 l.o.bits, .int .i64 l.o.hash] 60)).cell? ⟨wr.heap.size, 2, none⟩ = some (.slice l.S l.o.slots.length l.c) := by go_simp
      go_region_held3 (fun w' => w'.cell? ⟨w.heap.size, 0, none⟩ = some (.slice (some ⟨g, 0, none⟩) ls.length c1) ∧ w'.cell? ⟨wr.heap.size, 2, none⟩ = some (.slice l.S l.o.slots.length l.c))
        (first | exact ⟨e0', t2⟩ | exact ⟨cell_later hb2 e0', cell_later hb2 t2⟩ | exact ⟨(World.cell?_setCell_other _ _ _ _ (by intro e; injection e with e1; omega)).trans (cell_later hb2 e0'), (World.cell?_setCell_other _ _ _ _ (by intro e; injection e with e1; omega)).trans (cell_later hb2 t2)⟩)
        (first | (go_at_call 77; refine (clone1_any l.S l.o.slots l.c _ ((HI.out.below HA.out).below (Below.refl _ _).drew) (by omega)).mono ?_; rintro e w2 ⟨A2, c2, rfl, hown2, hb2⟩; have x2 := cell_later hb2 (cell_later (Below.refl _ _).drew (cell_later HA.out q2)); have y2 := ((own_later (own_later (own_later HC'.out.row HA.out) (Below.refl _ _).drew) hb2).frozenAt (k * 6 + 2))))
      go_wp2_with fail
      go_roundw
      case rel =>
        have HX := (HC'.out.later HA.out).later ((Below.refl _ _).drew.trans hb2)
        have HBA : Below wr.heap.size wr w2 := HA.out.trans (((Below.refl _ _).drew.trans hb2).mono (by simp))
        refine ⟨k + 1, cur.set k ⟨l.o, A2, c2⟩, by omega, by go_num, HX.step (HLl.out ▸ HCK.out) hown2 ?_ ?_, ?_, ?_, ?_, ?_⟩
        · simp; omega
        · intro i li a hi hli ha
          have := HC'.out.blk_lt hi hli ha
          simp; omega
        · exact (HB0.out.later HBA).far hgB.symm _
        · exact (HB1.out.later HBA).far (by show w.heap.size + 1 ≠ g; omega) _
        · exact (HBW.out.trans (HBA.mono HBW.out.size)).setCell (by show w.heap.size ≤ g; omega) _
        · have := HBA.size
          simp; omega
      case measure => simp [intOf]; omega
    · have hkn : k = ls.length := by omega
      subst hkn
      obtain ⟨g0, g1, g2⟩ := b1.c3
      obtain ⟨h0, h1, h2⟩ := b1.f3
      clear b1
      go_wp2
      have K0 : Lies (((wr.setCell ⟨w.heap.size + 1, 0, none⟩ (.slice A1 ls.length c1)).setCell ⟨w.heap.size + 1, 1, none⟩ (.int .i64 cap)).setCell ⟨w.heap.size + 1, 2, none⟩ (.int .i64 last)) (w.heap.size + 1) 24 #[.slice A1 ls.length c1, .int .i64 cap, .int .i64 last] := by
        simpa using (((HB1.out.set_ 0 (.slice A1 ls.length c1)).set_ 1 (.int .i64 cap)).set_ 2 (.int .i64 last))
      obtain ⟨r0, r1, r2⟩ := K0.c3
      refine bodyPost_ret (v := .agg #[.slice A1 ls.length c1, .int .i64 cap, .int .i64 last]) (by simp [results, Tryz.results49, go_sem, r0, r1, r2]) rfl ⟨A1, c1, cur, rfl, HC'.out.same, ?_, ?_⟩
      · exact (((HC'.out.low (p := ⟨w.heap.size + 1, 0, none⟩) (by simp) _).low (p := ⟨w.heap.size + 1, 1, none⟩) (by simp) _).low (p := ⟨w.heap.size + 1, 2, none⟩) (by simp) _).fin (by omega)
      · exact ((HBW.out.setCell (p := ⟨w.heap.size + 1, 0, none⟩) (by simp) _).setCell (p := ⟨w.heap.size + 1, 1, none⟩) (by simp) _).setCell (p := ⟨w.heap.size + 1, 2, none⟩) (by simp) _
/-- neither too many objects, nor too many slots -/
def Mod12 (h : Hp) : Prop := h.objs.length ≤ 256 ∧ ∀ o ∈ h.objs, o.slots.length ≤ 100000
theorem may_mod12 {h : Hp} (hm : mayB h = true) : Mod12 h := ⟨may_len hm, fun o ho => Nat.le_trans (kind_len (ob_kind (may_all hm _ ho))).1 (by decide)⟩
theorem pclone_h12 (h : Hp) (A : Option Addr) (c : Nat) (w : World) (hs : ObsR w A h.objs) (hm : Mod12 h) : Calls Tryz.prog 49 #[.agg #[.slice A h.objs.length c, .int .i64 h.cap, .int .i64 h.last]] w (HeapOwn w h) := by
  obtain ⟨ls, h1, h2⟩ := hs.laid
  have e1 : ls.length = h.objs.length := by rw [← h1]; simp
  have e3 : ∀ l ∈ ls, l.o.slots.length ≤ 100000 := fun l hl => hm.2 _ (by rw [← h1]; exact List.mem_map_of_mem hl)
  rw [← e1]
  refine (pclone_any12 h.cap h.last A c ls w h2 (by rw [e1]; exact hm.1) e3).mono ?_
  rintro e w' ⟨A', c', ls', rfl, h3, h4, h5⟩
  exact ⟨A', c', ls', by rw [e1], by rw [h3, h1], h4, h5⟩
end Go.Proofs.YtalfbdigjaibkaaGreat
namespace Go.Proofs.YtalfbdigjaibkaaGreat
open Go.RowKit
set_option maxRecDepth 100000
/-- entries (a slot and what stands there), as cells; the slots behind them; a list of objects with other slots -/
def enC12 (es : List (Nat × Int)) : List Value := es.flatMap fun p => [.int .i64 (p.1 : Nat), .int .i64 p.2]
def wr12 (es : List (Nat × Int)) (xs : List Int) : List Int := es.foldl (fun s p => s.set p.1 p.2) xs
def upd12 (ls : List LO) (i : Nat) (l : LO) (xs : List Int) : List LO := ls.set i ⟨{ l.o with slots := xs }, l.S, l.c⟩
theorem wr_len12 (es : List (Nat × Int)) : ∀ xs, (wr12 es xs).length = xs.length := by
  induction es with
  | nil => intro xs; rfl
  | cons p es ih => intro xs; show (wr12 es (xs.set p.1 p.2)).length = _; rw [ih]; simp
theorem wr_more12 (es : List (Nat × Int)) (k : Nat) (p : Nat × Int) (hk : es[k]? = some p) (xs : List Int) : wr12 (es.take (k + 1)) xs = (wr12 (es.take k) xs).set p.1 p.2 := by
  obtain ⟨hl, rfl⟩ := List.getElem?_eq_some_iff.1 hk
  unfold wr12
  rw [List.take_succ_eq_append_getElem hl, List.foldl_append]; rfl
theorem enC_at12 (es : List (Nat × Int)) (k : Nat) (p : Nat × Int) (hk : es[k]? = some p) : (enC12 es)[k * 2]? = some (.int .i64 (p.1 : Nat)) ∧ (enC12 es)[k * 2 + 1]? = some (.int .i64 p.2) := by
  unfold enC12
  induction es generalizing k with
  | nil => simp at hk
  | cons q es ih =>
    rw [List.flatMap_cons]
    cases k with
    | zero =>
      obtain rfl : q = p := by simpa using hk
      exact ⟨rfl, rfl⟩
    | succ k =>
      obtain ⟨h1, h2⟩ := ih k (by simpa using hk)
      rw [List.getElem?_append_right (by simp; omega), List.getElem?_append_right (by simp; omega)]
      exact ⟨by rw [← h1]; congr 1; simp; omega, by rw [← h2]; congr 1; simp; omega⟩
theorem upd_set12 (ls : List LO) (i : Nat) (l : LO) (xs ys : List Int) : (upd12 ls i l xs).set i ⟨{ l.o with slots := ys }, l.S, l.c⟩ = upd12 ls i l ys := by unfold upd12; rw [List.set_set]
theorem upd_same12 {ls : List LO} {i : Nat} {l : LO} (h : ls[i]? = some l) : upd12 ls i l l.o.slots = ls := by
  obtain ⟨hl, rfl⟩ := List.getElem?_eq_some_iff.1 h
  unfold upd12; exact List.set_getElem_self hl
theorem upd_get12 {ls : List LO} {i : Nat} {l : LO} (h : ls[i]? = some l) (xs : List Int) : (upd12 ls i l xs)[i]? = some ⟨{ l.o with slots := xs }, l.S, l.c⟩ := by
  obtain ⟨hl, rfl⟩ := List.getElem?_eq_some_iff.1 h
  unfold upd12; exact List.getElem?_set_self hl
theorem grown_then12 {w u v : World} {g : Nat} (h : w.grownBy u (some g)) (k : u.grownBy v (some g)) : w.grownBy v (some g) := h.trans k
/-- slots of an object of the call's own, written: nothing else has changed -/
def WrP12 (w : World) (base : Nat) (A : Option Addr) (c : Nat) (ls : List LO) (i : Nat) (l : LO) (g : Nat) (es : List (Nat × Int)) (e : Ending) (w' : World) : Prop :=
  e = .returned (.tuple #[]) ∧ OwnH w' base A c (upd12 ls i l (wr12 es l.o.slots)) ∧ w.grownBy w' (some g)
set_option maxHeartbeats 4000000 in
theorem pwrite_any12 (w : World) (base : Nat) (A : Option Addr) (c : Nat) (ls : List LO) (i : Nat) (l : LO) (g : Nat) (es : List (Nat × Int)) (bl dl n : Nat) (hown : OwnH w base A c ls) (hl : ls[i]? = some l) (hS : l.S = some ⟨g, 0, none⟩)
    (hes : Lies w bl 81 (enC12 es).toArray) (hlt : ∀ p ∈ es, p.1 < l.o.slots.length) (hn : n = l.o.slots.length) (hk : es.length ≤ 1000) :
    Calls Tryz.prog 59 #[.slice (some ⟨g, 0, none⟩) n l.c, .slice (some ⟨bl, 0, none⟩) es.length dl] w (WrP12 w base A c ls i l g es) := by
  have HOWN : Hid (OwnH w base A c (upd12 ls i l (wr12 (es.take 0) l.o.slots))) := by show OwnH _ _ _ _ _; rw [List.take_zero]; show OwnH _ _ _ _ (upd12 ls i l l.o.slots); rw [upd_same12 hl]; exact hown
  have hgl : Hid (g < w.heap.size ∧ bl ≠ g) := by
    have h1 := hown.ints i l hl
    rw [hS] at h1
    obtain ⟨cur, hc, -⟩ := own_blk h1
    exact ⟨hc.lt, lies_ne hes hc (by decide)⟩
  have HES := hid hes
  have HLT := hid hlt
  have HL := hid hl
  have HSS := hid hS
  have HN := hid hn
  clear hown hes hlt hl hS hn
  go_enter Tryz.func59, Tryz.ntmps59
  go_wp2_with fail
  go_loopw [8] (fun q wr => ∃ k : Nat, k ≤ es.length ∧ q = .int .i64 k ∧ Hid (OwnH wr base A c (upd12 ls i l (wr12 (es.take k) l.o.slots))) ∧ Hid (w.grownBy wr (some g))) (fun q _ => es.length - (intOf q).toNat)
  case atStart => exact ⟨0, Nat.zero_le _, rfl, HOWN, World.grownBy.refl _ _⟩
  case round =>
    rename World => w1
    obtain ⟨k, hkl, rfl, HO, HG⟩ := hrel
    by_cases hk2 : k < es.length
    · have hp := List.getElem?_eq_getElem hk2
      obtain ⟨p, hpp⟩ : ∃ p, p = es[k] := ⟨_, rfl⟩
      rw [← hpp] at hp
      have hpn : p.1 < l.o.slots.length := HLT.out p (by rw [hpp]; exact List.getElem_mem hk2)
      have HE1 : Hid (Lies w1 bl 81 (enC12 es).toArray) := Lies.grown HES.out HG.out (by intro e; injection e with e; exact hgl.out.2 e)
      obtain ⟨c0, c1⟩ := enC_at12 es k p hp
      have e0 : w1.cell? ⟨bl, k * 2, none⟩ = some (.int .i64 (p.1 : Nat)) := (HE1.out.cell (k * 2)).trans (by simpa using c0)
      have e1 : w1.cell? ⟨bl, k * 2 + 1, none⟩ = some (.int .i64 p.2) := (HE1.out.cell (k * 2 + 1)).trans (by simpa using c1)
      have hget := upd_get12 HL.out (wr12 (es.take k) l.o.slots)
      have hI := HO.out.ints i _ hget
      rw [HSS.out] at hI
      have hwl : (wr12 (es.take k) l.o.slots).length = l.o.slots.length := wr_len12 _ _
      obtain ⟨cur, hcur, -⟩ := own_blk hI
      have qj := hI.cellAt p.1 (by simp only [Nat.mul_one]; rw [hwl]; exact hpn)
      have fj := hI.frozenAt p.1
      rw [List.getElem?_map, List.getElem?_eq_getElem (by rw [hwl]; exact hpn)] at qj
      simp only [Option.map_some] at qj
      obtain ⟨z, hz⟩ : ∃ z, z = (wr12 (es.take k) l.o.slots)[p.1]'(by rw [hwl]; exact hpn) := ⟨_, rfl⟩
      rw [← hz] at qj
      have hg1 : g < w1.heap.size := hcur.lt
      have HM : Hid (wr12 (es.take (k + 1)) l.o.slots = (wr12 (es.take k) l.o.slots).set p.1 p.2) := wr_more12 es k p hp _
      have hpI : (p.1 : Int) < (n : Int) := by rw [HN.out]; omega
      have hp0 : (0 : Int) ≤ (p.1 : Int) := by omega
      have hpN : p.1 < n := by rw [HN.out]; exact hpn
      have HSL0 := HO.out.slot (j := p.1) (x := p.2) hget HSS.out
      rw [upd_set12, ← HM.out] at HSL0
      have HSL := hid (HSL0.later (below_alloc _ (.cells #[.int .i64 (p.1 : Nat), .int .i64 p.2] 81)))
      clear HSL0
      have HGG : Hid (w.grownBy ((w1.setCell ⟨g, p.1, none⟩ (.int .i64 p.2)).alloc (.cells #[.int .i64 (p.1 : Nat), .int .i64 p.2] 81)) (some g)) := (HG.out.trans (grown_set12 w1 ⟨g, p.1, none⟩ (.int .i64 p.2))).trans (World.grownBy_alloc _ _ (some g))
      have qj2 := cell_old (ob := .cells #[.int .i64 (p.1 : Nat), .int .i64 p.2] 81) qj
      have fj2 : (w1.alloc (.cells #[.int .i64 (p.1 : Nat), .int .i64 p.2] 81)).frozen? ⟨g, p.1, none⟩ = false := by
        rw [(below_alloc w1 (.cells #[.int .i64 (p.1 : Nat), .int .i64 p.2] 81)).frozen hg1]; exact fj
      have hgne : g ≠ w1.heap.size := by omega
      clear hz hI hget hcur hp hpp c0 c1
      go_wp2_with fail
      go_roundw
      case rel => exact ⟨k + 1, by omega, by go_num, HSL, HGG⟩
      case measure => simp [intOf]; omega
    · have e : k = es.length := by omega
      subst e
      rw [List.take_length] at HO
      go_wp2_with fail
      refine bodyPost_end (v := .tuple #[]) (by simp [results, Tryz.results59, go_sem]) rfl ?_
      exact ⟨rfl, HO.out, HG.out⟩
end Go.Proofs.YtalfbdigjaibkaaGreat
namespace Go.Proofs.YtalfbdigjaibkaaGreat
open Go.RowKit
set_option maxRecDepth 100000
/-- the heap, in which slots of v's object are as the entries tell -/
def chg12 (h : Hp) (v : Int) (es : List (Nat × Int)) : Hp := { h with objs := h.objs.set (atV v).toNat { obAt h v with slots := wr12 es (obAt h v).slots } }
set_option maxHeartbeats 4000000 in
theorem pchanged_any12 (h : Hp) (v : Int) (es : List (Nat × Int)) (bl dl : Nat) (A : Option Addr) (c : Nat) (w : World) (hs : ObsR w A h.objs) (hm : mayB h = true) (hr : refB h.objs.length v = true) (hlt : ∀ p ∈ es, p.1 < (obAt h v).slots.length)
    (hne : 0 < (obAt h v).slots.length) (hes : Lies w bl 81 (enC12 es).toArray) (hk : es.length ≤ 1000) :
    Calls Tryz.prog 50 #[.agg #[.slice A h.objs.length c, .int .i64 h.cap, .int .i64 h.last], .int .i64 (atV v), .slice (some ⟨bl, 0, none⟩) es.length dl] w (HeapOwn w (chg12 h v es)) := by
  obtain ⟨w0, hw0⟩ : ∃ w0, w0 = (w.alloc (.cells #[Value.slice A h.objs.length c, Value.int .i64 h.cap, Value.int .i64 h.last] 24)).alloc (.cells #[.slice none 0 0, .int .i64 0, .int .i64 0] 24) := ⟨_, rfl⟩
  have HB0 : Hid (Below w.heap.size w w0) := by show Below _ _ _; rw [hw0]; exact below_alloc2 w _ _
  have HX0 : Hid (Lies w0 w.heap.size 24 #[Value.slice A h.objs.length c, Value.int .i64 h.cap, Value.int .i64 h.last]) := by show Lies _ _ _ _; rw [hw0]; exact ((Lies.new w _ _).alloc _)
  have HK0 : Hid (Lies w0 (w.heap.size + 1) 24 #[.slice none 0 0, .int .i64 0, .int .i64 0]) := by
    show Lies _ _ _ _
    have := (Lies.new (w.alloc (.cells #[Value.slice A h.objs.length c, Value.int .i64 h.cap, Value.int .i64 h.last] 24)) 24 #[.slice none 0 0, .int .i64 0, .int .i64 0])
    rw [hw0]
    simpa [Hid] using this
  have HS := hid hs
  have HM := hid hm
  have HR := hid hr
  have HLT := hid hlt
  have HNE := hid hne
  have HES : Hid (Lies w0 bl 81 (enC12 es).toArray) := by show Lies _ _ _ _; rw [hw0]; exact (hes.alloc _).alloc _
  have hsz0 : Hid (w.heap.size + 2 ≤ w0.heap.size) := by show _ ≤ _; rw [hw0]; simp
  clear hs hm hlt hne hes
  go_enter Tryz.func50, Tryz.ntmps50
  go_upto_region 1 with fail
  rw [← hw0]
  clear hw0
  obtain ⟨x0, x1, x2⟩ := HX0.out.c3
  go_wp2_with fail
  refine (pclone_h12 h A c _ (HS.out.below HB0.out) (may_mod12 HM.out)).mono ?_
  rintro e w1 ⟨A1, c1, ls, rfl, hls, hown, hb⟩
  have HB1 := hid (then_w HB0.out hb)
  have HK1 := hid (HK0.out.later hb)
  have HES1 := hid (HES.out.later hb)
  clear hb x0 x1 x2 HX0 HK0 HES
  obtain ⟨i, hi, hv, ho⟩ := obAt_get hr
  have hin : i < ls.length := by have := congrArg List.length hls; simp at this; omega
  have hli : ls[i]? = some ls[i] := List.getElem?_eq_getElem hin
  obtain ⟨l, hl⟩ : ∃ l, l = ls[i] := ⟨_, rfl⟩
  rw [← hl] at hli
  have hlo : l.o = obAt h v := by
    have := congrArg (fun t => t[i]?) hls
    simp only [List.getElem?_map, hli, Option.map_some] at this
    rw [ho] at this
    exact Option.some.inj this
  obtain ⟨g, cg, hvv, hg0, hg1⟩ := hown.row.form (by omega)
  simp only [Value.slice.injEq, true_and] at hvv
  obtain ⟨rfl, rfl⟩ := hvv
  obtain ⟨gs, cs, hvs, hs0, hs1⟩ := (hown.ints i _ hli).form (by rw [hlo]; exact HNE.out)
  simp only [Value.slice.injEq, true_and] at hvs
  obtain ⟨hS, hC⟩ := hvs
  have q2 := (hown.row.cellAt (i * 6 + 2) (by omega)).trans (rowOf_get ls i 2 _ hli (by omega))
  simp only [LO.cells, List.getElem?_cons_zero, List.getElem?_cons_succ] at q2
  rw [hS] at q2
  have HOW := hid hown
  have HLS := hid hls
  have HSS := hid hS
  have HLI := hid hli
  have HLO := hid hlo
  have HIV := hid hv
  have hlen : ls.length = h.objs.length := by have := congrArg List.length hls; simpa using this
  have HLEN := hid hlen
  have HS01 : Hid (w0.heap.size ≤ gs ∧ gs < w1.heap.size) := ⟨hs0, hs1⟩
  have HG01 := hid hg1
  rw [hv]
  have hiI : (i : Int) < (h.objs.length : Int) := by omega
  have hi0 : (0 : Int) ≤ (i : Int) := by omega
  clear hown hls hS hC hli hlo hv hl hlen ho hr
  go_upto_region 2 with fail
  obtain ⟨w2, hw2⟩ : ∃ x, x = w1.alloc (.cells #[.slice (some ⟨g, 0, none⟩) h.objs.length c1, .int .i64 h.cap, .int .i64 h.last] 24) := ⟨_, rfl⟩
  have LG : Hid (Lies w2 w1.heap.size 24 #[.slice (some ⟨g, 0, none⟩) h.objs.length c1, .int .i64 h.cap, .int .i64 h.last]) := by show Lies _ _ _ _; rw [hw2]; exact Lies.new _ _ _
  have HB12 : Hid (Below w1.heap.size w1 w2) := by show Below _ _ _; rw [hw2]; exact below_alloc _ _
  have hsz2 : Hid (w2.heap.size = w1.heap.size + 1) := by show _ = _; rw [hw2]; simp
  rw [← hw2]
  clear hw2
  have HB2 := hid (then_w HB1.out HB12.out)
  have HK2 := hid (HK1.out.later HB12.out)
  have HES2 := hid (HES1.out.later HB12.out)
  have HOW2 := hid (HOW.out.later HB12.out)
  have q2 := cell_later HB12.out q2
  clear HB1 HK1 HES1 HOW
  obtain ⟨l0, l1, l2⟩ := LG.out.c3
  go_wp2_with fail
  refine (pwrite_any12 _ _ _ _ ls i l gs es bl dl l.o.slots.length HOW2.out HLI.out HSS.out HES2.out (fun p hp => by rw [HLO.out]; exact HLT.out p hp) rfl hk).mono ?_
  rintro e w3 ⟨rfl, hown3, hgr⟩
  have HO3 := hid hown3
  have HGR := hid hgr
  have HB3 : Hid (Below w.heap.size w w3) := HB2.out.grown hgr HB2.out.size (fun k e => by injection e with e; have := HS01.out.1; have := hsz0.out; omega)
  have LG3 := hid (LG.out.grown hgr (by intro e; injection e with e; have := HS01.out.2; omega))
  have HK3 := hid (HK2.out.grown hgr (by intro e; injection e with e; have := HS01.out.1; have := hsz0.out; omega))
  clear hown3 hgr l0 l1 l2 q2 HB2 HK2 LG
  obtain ⟨l0, l1, l2⟩ := LG3.out.c3
  obtain ⟨u0, u1, u2⟩ := HK3.out.c3
  obtain ⟨uf0, uf1, uf2⟩ := HK3.out.f3
  go_wp2_with fail
  obtain ⟨r0, r1, r2⟩ := HK3.out.s3 (.slice (some ⟨g, 0, none⟩) h.objs.length c1) (.int .i64 h.cap) (.int .i64 h.last)
  refine bodyPost_ret (v := .agg #[.slice (some ⟨g, 0, none⟩) h.objs.length c1, .int .i64 h.cap, .int .i64 h.last]) (by simp [results, Tryz.results50, go_sem, r0, r1, r2]) rfl ?_
  have HBE := below_s3 (g := w.heap.size + 1) HB3.out (by simp) (.slice (some ⟨g, 0, none⟩) h.objs.length c1) (.int .i64 h.cap) (.int .i64 h.last)
  have hlow : w.heap.size + 1 < w0.heap.size := by have := hsz0.out; omega
  refine ⟨some ⟨g, 0, none⟩, c1, upd12 ls i l (wr12 es l.o.slots), by simp [chg12], ?_, (((HO3.out.low (p := ⟨w.heap.size + 1, 0, none⟩) hlow _).low (p := ⟨w.heap.size + 1, 1, none⟩) hlow _).low (p := ⟨w.heap.size + 1, 2, none⟩) hlow _).lower HB0.out.size, HBE⟩
  show List.map _ _ = h.objs.set _ _
  unfold upd12
  rw [List.map_set, HLS.out, HIV.out]
  show h.objs.set i { l.o with slots := wr12 es l.o.slots } = _
  rw [HLO.out]; rfl
end Go.Proofs.YtalfbdigjaibkaaGreat
