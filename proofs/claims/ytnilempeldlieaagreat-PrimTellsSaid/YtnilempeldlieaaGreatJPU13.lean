/- A heap cloned; whether a primitive may be asked. The deferred closure that knows a primitive's own stop. A primitive is done, or why not. A primitive asked. -/
import Derived.Test.YtnilempeldlieaaGreatJPC13
import Derived.Test.YtnilempeldlieaaGreatJ19
import Derived.Test.YtnilempeldlieaaGreatJ03
import Derived.Test.YtnilempeldlieaaGreatJ06
import Derived.Test.YtnilempeldlieaaGreatJ02
import Derived.Defers
import Derived.Recover
import Derived.Test.YtnilempeldlieaaGreatJ20
namespace Go.Proofs.YtnilempeldlieaaGreat
open Go.RowKit
set_option maxRecDepth 100000
set_option maxHeartbeats 1000000 in
theorem pclone_any13 (cap last : Int) (A : Option Addr) (c : Nat) (ls : List LO) (w : World) (hs : LaidR w A ls) (hl : ls.length ≤ 256) (hl2 : ∀ l ∈ ls, l.o.slots.length ≤ 64) :
    Calls Tryz.prog 39 #[.agg #[.slice A ls.length c, .int .i64 cap, .int .i64 last]] w fun e w' => ∃ A' c' ls', e = .returned (.agg #[.slice A' ls.length c', .int .i64 cap, .int .i64 last]) ∧ ls'.map (·.o) = ls.map (·.o) ∧ OwnH w' w.heap.size A' c' ls' ∧ Below w.heap.size w w' := by
  have HS := hid hs
  clear hs
  go_enter Tryz.func39, Tryz.ntmps39
  go_wp2_with fail
  refine (clone2_any A ls c _ (HS.out.later (below_alloc2 _ _ _)) hl).mono ?_
  rintro e w1 ⟨A1, c1, rfl, hown, hb⟩
  have HO := hid hown
  have HB := hid hb
  have k0 : Lies w1 w.heap.size 24 #[.slice A ls.length c, .int .i64 cap, .int .i64 last] := ((Lies.new _ _ _).alloc _).later hb
  have k1 : Lies w1 (w.heap.size + 1) 24 #[.slice none 0 0, .int .i64 0, .int .i64 0] := by
    have := (Lies.new (w.alloc (.cells #[.slice A ls.length c, .int .i64 cap, .int .i64 last] 24)) 24 #[.slice none 0 0, .int .i64 0, .int .i64 0]).later hb
    simpa using this
  have e0 := k0.cell 0
  have f0 := k0.frozen 0
  have K0 := hid k0
  have K1 := hid k1
  clear hown hb k0 k1
  go_wp2_with fail
  have k0 := K0.out
  have HK0 := hid (k0.set_ 0 (.slice A1 ls.length c1))
  have HK1 := hid ((K1.out).far (p := ⟨w.heap.size, 0, none⟩) (by simp) (.slice A1 ls.length c1))
  have HC := hid ((CloneK.start (base := w.heap.size + 2) (by simpa using HO.out)).low (p := ⟨w.heap.size, 0, none⟩) (by simp) (.slice A1 ls.length c1))
  have HW : Hid (Below w.heap.size w (w1.setCell ⟨w.heap.size, 0, none⟩ (.slice A1 ls.length c1))) := ((below_alloc2 w _ _).trans (HB.out.mono (by simp; omega))).setCell (Nat.le_refl _) _
  have HZ : Hid (w.heap.size + 2 ≤ (w1.setCell ⟨w.heap.size, 0, none⟩ (.slice A1 ls.length c1)).heap.size) := by
    have := HB.out.size
    show _ ≤ _
    simp at this ⊢; omega
  clear k0 e0 f0
  go_loopw [12] (fun i wr => ∃ k cur, k ≤ ls.length ∧ i = .int .i64 (k : Nat) ∧ CloneK wr (w.heap.size + 2) A1 c1 ls k cur ∧ Lies wr w.heap.size 24 #[.slice A1 ls.length c1, .int .i64 cap, .int .i64 last] ∧ Lies wr (w.heap.size + 1) 24 #[.slice none 0 0, .int .i64 0, .int .i64 0] ∧ Below w.heap.size w wr ∧ w.heap.size + 2 ≤ wr.heap.size) (fun i _ => ls.length - (intOf i).toNat)
  case atStart => exact ⟨0, ls, Nat.zero_le _, rfl, HC.out, HK0.out, HK1.out, HW.out, HZ.out⟩
  case round =>
    obtain ⟨k, cur, hk, rfl, hC, b0, b1, hbw, hz⟩ := hrel
    have HC' := hid hC
    have HB0 := hid b0
    have HB1 := hid b1
    have HBW := hid hbw
    have e0 := b0.cell 0
    have e1 := b0.cell 1
    have e2 := b0.cell 2
    have f0 := b0.frozen 0
    simp only [List.getElem?_toArray, List.getElem?_cons_zero, List.getElem?_cons_succ] at e0 e1 e2
    clear hC b0 hbw HC HK0 HK1 HW HZ K0 K1 HB HO
    by_cases hlt : k < ls.length
    · have hlc : k < cur.length := by rw [HC'.out.len]; exact hlt
      have hck : cur[k]? = some cur[k] := List.getElem?_eq_getElem hlc
      have hlk : cur[k] = ls[k] := by
        have := HC'.out.old k (Nat.le_refl _)
        rw [hck, List.getElem?_eq_getElem hlt] at this
        exact Option.some.inj this
      obtain ⟨g, cg, hv, hg0, hg1⟩ := HC'.out.row.form (by omega)
      simp only [Value.slice.injEq, true_and] at hv
      obtain ⟨rfl, rfl⟩ := hv
      have q := fun j (hj : j < 6) => (HC'.out.row.cellAt (k * 6 + j) (by omega)).trans (rowOf_get cur k j _ hck hj)
      have q0 := q 0 (by omega)
      have q1 := q 1 (by omega)
      have q2 := q 2 (by omega)
      have q3 := q 3 (by omega)
      have q4 := q 4 (by omega)
      have q5 := q 5 (by omega)
      simp only [LO.cells, List.getElem?_cons_zero, List.getElem?_cons_succ, Nat.add_zero] at q0 q1 q2 q3 q4 q5
      obtain ⟨l, hl⟩ : ∃ l, l = cur[k] := ⟨_, rfl⟩
      have HLl := hid hl
      rw [← hl] at q0 q1 q2 q3 q4 q5
      have HLK := hid hlk
      have HCK := hid hck
      clear q hck hlk hl b1
      go_wp2_with fail
      have HI : Hid (IntsR wr l.S l.o.slots) := (HS.out.ints l (by rw [HLl.out]; exact HLK.out ▸ List.getElem_mem hlt)).below HBW.out
      have hl64 := hl2 l (by rw [HLl.out]; exact HLK.out ▸ List.getElem_mem hlt)
      have hgB : g ≠ w.heap.size := by omega
      have HA := hid (below_alloc wr (.cells #[.int .i64 l.o.cls, .int .i64 l.o.kind, .slice l.S l.o.slots.length l.c, .string l.o.text, .int .i64 l.o.bits, .int .i64 l.o.hash] 41))
      have e0' := cell_old (ob := .cells #[.int .i64 l.o.cls, .int .i64 l.o.kind, .slice l.S l.o.slots.length l.c, .string l.o.text, .int .i64 l.o.bits, .int .i64 l.o.hash] 41) e0
      have t2 : (wr.alloc (.cells #[.int .i64 l.o.cls, .int .i64 l.o.kind, .slice l.S l.o.slots.length l.c, .string l.o.text, .int .i64 l.o.bits, .int .i64 l.o.hash] 41)).cell? ⟨wr.heap.size, 2, none⟩ = some (.slice l.S l.o.slots.length l.c) := by go_simp
      go_region_held3 (fun w' => w'.cell? ⟨w.heap.size, 0, none⟩ = some (.slice (some ⟨g, 0, none⟩) ls.length c1) ∧ w'.cell? ⟨wr.heap.size, 2, none⟩ = some (.slice l.S l.o.slots.length l.c))
        (first | exact ⟨e0', t2⟩ | exact ⟨cell_later hb2 e0', cell_later hb2 t2⟩ | exact ⟨(World.cell?_setCell_other _ _ _ _ (by intro e; injection e with e1; omega)).trans (cell_later hb2 e0'), (World.cell?_setCell_other _ _ _ _ (by intro e; injection e with e1; omega)).trans (cell_later hb2 t2)⟩)
        (first | (go_at_call 72; refine (clone1_any l.S l.o.slots l.c _ ((HI.out.below HA.out).below (Below.refl _ _).drew) (by omega)).mono ?_; rintro e w2 ⟨A2, c2, rfl, hown2, hb2⟩; have x2 := cell_later hb2 (cell_later (Below.refl _ _).drew (cell_later HA.out q2)); have y2 := ((own_later (own_later (own_later HC'.out.row HA.out) (Below.refl _ _).drew) hb2).frozenAt (k * 6 + 2))))
      go_wp2_with fail
      go_roundw
      case rel =>
        have HX := (HC'.out.later HA.out).later ((Below.refl _ _).drew.trans hb2)
        have HBA : Below wr.heap.size wr w2 := HA.out.trans (((Below.refl _ _).drew.trans hb2).mono (by simp))
        refine ⟨k + 1, cur.set k ⟨l.o, A2, c2⟩, by omega, by go_num, HX.step (HLl.out ▸ HCK.out) hown2 ?_ ?_, ?_, ?_, ?_, ?_⟩
        · simp; omega
        · intro i li a hi hli ha
          have := HC'.out.blk_lt hi hli ha
          simp; omega
        · exact (HB0.out.later HBA).far hgB.symm _
        · exact (HB1.out.later HBA).far (by show w.heap.size + 1 ≠ g; omega) _
        · exact (HBW.out.trans (HBA.mono HBW.out.size)).setCell (by show w.heap.size ≤ g; omega) _
        · have := HBA.size
          simp; omega
      case measure => simp [intOf]; omega
    · have hkn : k = ls.length := by omega
      subst hkn
      obtain ⟨g0, g1, g2⟩ := b1.c3
      obtain ⟨h0, h1, h2⟩ := b1.f3
      clear b1
      go_wp2
      have K0 : Lies (((wr.setCell ⟨w.heap.size + 1, 0, none⟩ (.slice A1 ls.length c1)).setCell ⟨w.heap.size + 1, 1, none⟩ (.int .i64 cap)).setCell ⟨w.heap.size + 1, 2, none⟩ (.int .i64 last)) (w.heap.size + 1) 24 #[.slice A1 ls.length c1, .int .i64 cap, .int .i64 last] := by
        simpa using (((HB1.out.set_ 0 (.slice A1 ls.length c1)).set_ 1 (.int .i64 cap)).set_ 2 (.int .i64 last))
      obtain ⟨r0, r1, r2⟩ := K0.c3
      refine bodyPost_ret (v := .agg #[.slice A1 ls.length c1, .int .i64 cap, .int .i64 last]) (by simp [results, Tryz.results39, go_sem, r0, r1, r2]) rfl ⟨A1, c1, cur, rfl, HC'.out.same, ?_, ?_⟩
      · exact (((HC'.out.low (p := ⟨w.heap.size + 1, 0, none⟩) (by simp) _).low (p := ⟨w.heap.size + 1, 1, none⟩) (by simp) _).low (p := ⟨w.heap.size + 1, 2, none⟩) (by simp) _).fin (by omega)
      · exact ((HBW.out.setCell (p := ⟨w.heap.size + 1, 0, none⟩) (by simp) _).setCell (p := ⟨w.heap.size + 1, 1, none⟩) (by simp) _).setCell (p := ⟨w.heap.size + 1, 2, none⟩) (by simp) _
theorem pclone_h13 (h : Hp) (A : Option Addr) (c : Nat) (w : World) (hs : ObsR w A h.objs) (hm : mayB h = true) : Calls Tryz.prog 39 #[.agg #[.slice A h.objs.length c, .int .i64 h.cap, .int .i64 h.last]] w (HeapOwn w h) := by
  obtain ⟨ls, h1, h2⟩ := hs.laid
  have e1 : ls.length = h.objs.length := by rw [← h1]; simp
  have e3 : ∀ l ∈ ls, l.o.slots.length ≤ 64 := fun l hl => (kind_len (ob_kind (may_all hm _ (by rw [← h1]; exact List.mem_map_of_mem hl)))).1
  rw [← e1]
  refine (pclone_any13 h.cap h.last A c ls w h2 (by rw [e1]; exact may_len hm) e3).mono ?_
  rintro e w' ⟨A', c', ls', rfl, h3, h4, h5⟩
  exact ⟨A', c', ls', by rw [e1], by rw [h3, h1], h4, h5⟩
theorem pisval_any13 (h : Hp) (v : Int) (A : Option Addr) (c : Nat) (w : World) :
    Calls Tryz.prog 69 #[.agg #[.slice A h.objs.length c, .int .i64 h.cap, .int .i64 h.last], .int .i64 v] w fun e w' => e = .returned (.bool (hasB h.objs.length v)) ∧ Below w.heap.size w w' := by
  obtain ⟨w0, hw0⟩ : ∃ w0, w0 = w.alloc (.cells #[Value.slice A h.objs.length c, Value.int .i64 h.cap, Value.int .i64 h.last] 24) := ⟨_, rfl⟩
  have HB : Hid (Below w.heap.size w w0) := by show Below _ _ _; rw [hw0]; exact below_alloc _ _
  have K0 : Lies w0 w.heap.size 24 #[Value.slice A h.objs.length c, Value.int .i64 h.cap, Value.int .i64 h.last] := by rw [hw0]; exact Lies.new _ _ _
  obtain ⟨x0, x1, x2⟩ := K0.c3
  clear K0
  cases ha : atB v
  · have e : hasB h.objs.length v = nB v := by unfold hasB refB; rw [ha]; simp
    have e2 : (nB v || atB v) = nB v := by rw [ha]; simp
    have HM := hid (vmay_any v)
    rw [e2] at HM
    rw [e]
    clear e e2
    go_enter Tryz.func69, Tryz.ntmps69
    go_wp2_with (first | (go_at_call 110; refine (at_any _ _).mono ?_; rintro e w' ⟨rfl, rfl⟩) | (go_at_call 115; refine (HM.out _).mono ?_; rintro e w' ⟨rfl, rfl⟩))
    rw [← hw0]
    go_ret
    exact ⟨rfl, HB.out⟩
  · have hn : nB v = false := by
      cases hn : nB v
      · rfl
      · have h1 := nB_iff.1 hn
        have h2 := atB_iff.1 ha
        omega
    have e : hasB h.objs.length v = decide (atV v < (h.objs.length : Int)) := by unfold hasB refB; rw [ha, hn]; simp
    rw [e]
    clear e
    go_enter Tryz.func69, Tryz.ntmps69
    go_upto_region 1 with fail
    rw [← hw0]
    clear hw0
    go_wp2_with (go_at_call 110; refine (at_any _ _).mono ?_; rintro e w' ⟨rfl, rfl⟩)
    go_ret
    exact ⟨rfl, HB.out⟩
theorem pno_any13 (h : Hp) (x : Int) (A : Option Addr) (c b : Nat) (w : World) (hb : BoxH w b h A c) :
    Calls Tryz.prog 68 #[.int .i64 x, .pointer (some ⟨b, 0, none⟩)] w fun e w' => e = .returned (.bool (!hasB h.objs.length x)) ∧ Below w.heap.size w w' := by
  obtain ⟨h0, h1, h2⟩ := hb
  go_enter Tryz.func68, Tryz.ntmps68
  go_wp2_with (first | (go_at_call 69; refine (pisval_any13 h _ A c _).mono ?_; rintro e w' ⟨rfl, hb⟩))
  go_ret
  exact ⟨rfl, hb⟩
theorem pidx_any13 (h : Hp) (A : Option Addr) (c b : Nat) (S : Option Addr) (xs : List Int) (d : Nat) (w : World) (hb : BoxH w b h A c) (hlt : b < w.heap.size) (hs : IntsR w S xs) (hl : xs.length ≤ 9223372036854775807) :
    Calls Tryz.prog 116 #[.slice S xs.length d, .func (.func 68) #[] #[.pointer (some ⟨b, 0, none⟩)]] w fun e w' => ∃ n : Int, e = .returned (.int .i64 n) ∧ (n < 0 ↔ xs.all (hasB h.objs.length) = true) ∧ Below w.heap.size w w' := by
  go_enter Tryz.func116, Tryz.ntmps116
  go_wp2
  go_loopw [8] (fun i wr => ∃ k : Nat, k ≤ xs.length ∧ i = .int .i64 k ∧ (xs.take k).all (hasB h.objs.length) = true ∧ Below w.heap.size w wr) (fun i _ => xs.length - (intOf i).toNat)
  case atStart => exact ⟨0, Nat.zero_le _, rfl, rfl, Below.refl _ _⟩
  case round =>
    obtain ⟨k, hk, rfl, hall, hbw⟩ := hrel
    by_cases hlt2 : k < xs.length
    · obtain ⟨bs, os, rfl, hbs, hcs⟩ := hs (by omega)
      have hcell : wr.cell? ⟨bs, os + k, none⟩ = some (.int .i64 xs[k]) := (hbw.cell (p := ⟨bs, os + k, none⟩) hbs).trans (hcs k _ (List.getElem?_eq_getElem hlt2))
      have hbr := hid (hb.below hlt hbw)
      have htk : (xs.take (k + 1)).all (hasB h.objs.length) = ((xs.take k).all (hasB h.objs.length) && hasB h.objs.length xs[k]) := by
        rw [List.take_succ_eq_append_getElem hlt2, List.all_append]; simp
      have HT := hid htk
      have HA := hid hall
      have HW := hid hbw
      have HS := hid hs
      clear htk hall hbw hcs hb hs
      cases hv : hasB h.objs.length xs[k]
      · go_wp2_with (first | (go_at_call 68; refine (pno_any13 h _ A c b _ hbr.out).mono ?_; rintro e w' ⟨rfl, hb⟩))
        go_ret
        refine ⟨k, rfl, ?_, HW.out.trans (hb.mono HW.out.size)⟩
        constructor
        · intro hh; omega
        · intro hh
          have := List.all_eq_true.1 hh xs[k] (List.getElem_mem hlt2)
          rw [hv] at this; cases this
      · go_wp2_with (first | (go_at_call 68; refine (pno_any13 h _ A c b _ hbr.out).mono ?_; rintro e w' ⟨rfl, hb⟩))
        go_roundw
        case rel => exact ⟨k + 1, by omega, by go_num, by rw [HT.out, HA.out, hv]; rfl, HW.out.trans (hb.mono HW.out.size)⟩
        case measure => simp [intOf]; omega
    · have e : k = xs.length := by omega
      subst e
      have HA := hid hall
      have HW := hid hbw
      clear hall hbw
      go_wp2
      go_ret
      refine ⟨-1, rfl, ⟨fun _ => ?_, fun _ => by omega⟩, HW.out⟩
      have := HA.out
      rwa [List.take_length] at this
theorem pcon_any13 (h : Hp) (A : Option Addr) (c b : Nat) (S : Option Addr) (xs : List Int) (d : Nat) (w : World) (hb : BoxH w b h A c) (hlt : b < w.heap.size) (hs : IntsR w S xs) (hl : xs.length ≤ 9223372036854775807) :
    Calls Tryz.prog 70 #[.slice S xs.length d, .func (.func 68) #[] #[.pointer (some ⟨b, 0, none⟩)]] w fun e w' => e = .returned (.bool (!xs.all (hasB h.objs.length))) ∧ Below w.heap.size w w' := by
  have K := hid (pidx_any13 h A c b S xs d w hb hlt hs hl)
  clear hs hl hlt hb
  go_enter Tryz.func70, Tryz.ntmps70
  go_wp2_with fail
  refine K.out.mono ?_
  rintro e w' ⟨n, rfl, hn, hb⟩
  have e2 : (!xs.all (hasB h.objs.length)) = decide (0 ≤ n) := by
    cases hx : xs.all (hasB h.objs.length) <;> rw [hx] at hn <;> simp at hn ⊢ <;> omega
  have E2 := hid e2
  clear hn e2 K
  go_wp2
  go_ret
  exact ⟨by rw [E2.out]; rfl, hb⟩

set_option maxHeartbeats 1000000 in
theorem asked_any13 (h : Hp) (s : Int) (args : List Int) (SA : Option Addr) (da : Nat) (A : Option Addr) (c : Nat) (w : World) (hs : ObsR w A h.objs) (fit : h.Fit) (hsa : IntsR w SA args) (hal : args.length ≤ 9223372036854775807) :
    Calls Tryz.prog 38 #[.agg #[.slice A h.objs.length c, .int .i64 h.cap, .int .i64 h.last], .int .i64 s, .slice SA args.length da] w fun e w' => e = .returned (.bool (mayB h && (decide (12 ≤ h.objs.length) && (hasB h.objs.length s && args.all (hasB h.objs.length))))) ∧ Below w.heap.size w w' := by
  have hmf : ∀ (fn : Fn) (first cap : Array Value) (w : World), (Instr.makeFunc fn first cap).run Tryz.prog w = .ok (.func fn first cap) w := fun _ _ _ _ => rfl
  obtain ⟨w0, hw0⟩ : ∃ w0, w0 = w.alloc (.cells #[Value.slice A h.objs.length c, Value.int .i64 h.cap, Value.int .i64 h.last] 24) := ⟨_, rfl⟩
  have HB0 : Hid (Below w.heap.size w w0) := by show Below _ _ _; rw [hw0]; exact below_alloc _ _
  have HX0 : Hid (Lies w0 w.heap.size 24 #[Value.slice A h.objs.length c, Value.int .i64 h.cap, Value.int .i64 h.last]) := by show Lies _ _ _ _; rw [hw0]; exact Lies.new _ _ _
  obtain ⟨rb, hrb⟩ : ∃ b, b = (mayB h && (decide (12 ≤ h.objs.length) && (hasB h.objs.length s && args.all (hasB h.objs.length)))) := ⟨_, rfl⟩
  rw [← hrb]
  have RB := hid hrb
  clear hrb
  have HS := hid hs
  have HF := hid fit
  have HSA := hid hsa
  have HAL := hid hal
  clear hs fit hsa hal
  go_enter Tryz.func38, Tryz.ntmps38
  go_upto_region 1 with fail
  rw [← hw0]
  clear hw0
  obtain ⟨x0, x1, x2⟩ := HX0.out.c3
  go_wp2_with fail
  refine (may_any h A c _ (HS.out.below HB0.out) HF.out).mono ?_
  rintro e w1 ⟨rfl, hb⟩
  have HB1 := hid (then_w HB0.out hb)
  have HX1 := hid (HX0.out.later hb)
  clear hb x0 x1 x2
  obtain ⟨x0, x1, x2⟩ := HX1.out.c3
  cases hm : mayB h
  · have R2 : Hid (rb = false) := by show _ = _; rw [RB.out, hm]; rfl
    go_wp2_with fail
    go_ret
    exact ⟨by rw [R2.out]; rfl, HB1.out⟩
  by_cases h12 : h.objs.length < 12
  · have hI : (h.objs.length : Int) < 12 := by omega
    have R2 : Hid (rb = false) := by show _ = _; rw [RB.out, decide_eq_false (show ¬ 12 ≤ h.objs.length by omega)]; simp
    go_wp2_with fail
    go_ret
    exact ⟨by rw [R2.out]; rfl, HB1.out⟩
  have hI : ¬ (h.objs.length : Int) < 12 := by omega
  have R1 : Hid (rb = (hasB h.objs.length s && args.all (hasB h.objs.length))) := by show _ = _; rw [RB.out, hm, decide_eq_true (show 12 ≤ h.objs.length by omega)]; simp
  clear hm
  have HBX : Hid (BoxH w1 w.heap.size h A c) := hid ⟨x0, x1, x2⟩
  go_wp2_with fail
  refine (pno_any13 h s A c _ _ HBX.out).mono ?_
  rintro e w2 ⟨rfl, hb⟩
  have HB2 := hid (then_w HB1.out hb)
  have HX2 := hid (HX1.out.later hb)
  clear hb x0 x1 x2 HBX
  obtain ⟨x0, x1, x2⟩ := HX2.out.c3
  cases hv : hasB h.objs.length s
  · have R2 : Hid (rb = false) := by show _ = _; rw [R1.out, hv]; rfl
    go_wp2_with fail
    go_ret
    exact ⟨by rw [R2.out]; rfl, HB2.out⟩
  have HBX : Hid (BoxH w2 w.heap.size h A c) := hid ⟨x0, x1, x2⟩
  go_wp2_with fail
  refine (pcon_any13 h A c w.heap.size SA args da _ HBX.out HX2.out.lt (HSA.out.below HB2.out) HAL.out).mono ?_
  rintro e w3 ⟨rfl, hb⟩
  have HB3 := hid (then_w HB2.out hb)
  clear hb
  go_wp2_with fail
  go_ret
  exact ⟨by rw [R1.out, hv]; simp, HB3.out⟩
end Go.Proofs.YtnilempeldlieaaGreat
namespace Go.Proofs.YtnilempeldlieaaGreat
open Go.RowKit
set_option maxRecDepth 100000
theorem assert_own13 (en : Int) (w : World) : (Instr.typeAssert (.iface 25 (.int .i64 en)) 20 25 true).run Tryz.prog w = .ok (.tuple #[.int .i64 en, .bool true]) w := by kernel_rfl
theorem eql_own13 (en : Int) (w : World) : (binOp .eql 20 (.iface 25 (.int .i64 en)) .nilIface).run Tryz.prog w = .ok (.bool false) w := by kernel_rfl
theorem eql_nil13 (w : World) : (binOp .eql 20 .nilIface .nilIface).run Tryz.prog w = .ok (.bool true) w := by kernel_rfl
set_option maxHeartbeats 1000000 in
theorem catch_stop13 (a c : Nat) (en : Int) (w : World) (R E : Value) (ha : Lies w a 3 #[R]) (hc : Lies w c 25 #[E]) (hac : a ≠ c) :
    CallsD Tryz.prog 73 #[.pointer (some ⟨a, 0, none⟩), .pointer (some ⟨c, 0, none⟩)] (.panicking (stop13 en)) w fun e u' w' =>
      e = .returned (.tuple #[]) ∧ settle u' = .returning ∧ Lies w' a 3 #[.int .i64 0] ∧ Lies w' c 25 #[.int .i64 en] ∧ ∀ B, B ≤ a → B ≤ c → Below B w w' := by
  have HA := hid (((ha.set_ 0 (.int .i64 0)).far (p := ⟨c, 0, none⟩) hac (.int .i64 130)).far (p := ⟨c, 0, none⟩) hac (.int .i64 en))
  have HC := hid (((hc.far (p := ⟨a, 0, none⟩) hac.symm (.int .i64 0)).set_ 0 (.int .i64 130)).set_ 0 (.int .i64 en))
  have HBL := hid (fun (B : Nat) (h1 : B ≤ a) (h2 : B ≤ c) => (((Below.refl B w).setCell (p := ⟨a, 0, none⟩) h1 (.int .i64 0)).setCell (p := ⟨c, 0, none⟩) h2 (.int .i64 130)).setCell (p := ⟨c, 0, none⟩) h2 (.int .i64 en))
  have a0 := ha.cell 0
  have c0 := hc.cell 0
  have fa0 := ha.frozen 0
  have fc0 := hc.frozen 0
  simp only [List.getElem?_toArray, List.getElem?_cons_zero] at a0 c0
  have hac2 := hac.symm
  unfold stop13
  refine callsD_of_wpS Tryz.func73 rfl fun c₀ cs hu => ?_
  apply wpS_seq
  apply wpS_region
  simp [wpOpsS, go_sem, recoverD, hu, Tryz.ntmps73, Exit.thenS]
  rw [show (#[Value.pointer (some ⟨a, 0, none⟩), Value.pointer (some ⟨c, 0, none⟩)] ++ ((Array.replicate 13 undef).setIfInBounds 3 (.iface 25 (.int .i64 en))).setIfInBounds 0 (.iface 25 (.int .i64 en)) : Array Value) = #[Value.pointer (some ⟨a, 0, none⟩), Value.pointer (some ⟨c, 0, none⟩), .iface 25 (.int .i64 en), undef, undef, .iface 25 (.int .i64 en), undef, undef, undef, undef, undef, undef, undef, undef, undef] from rfl]
  refine wpS_of_wp ?_
  have hta := fun w9 => assert_own13 en w9
  have hel := fun w9 => eql_own13 en w9
  go_wp2_with fail
  simp only [List.setIfInBounds_toArray, List.set_cons_zero] at HA HC
  simp only [bodyPostS]
  refine ⟨trivial, _, rfl, .tuple #[], by simp [results, Tryz.results73], rfl, rfl, HA.out, HC.out, HBL.out⟩
set_option maxHeartbeats 1000000 in
theorem catch_none13 (a c : Addr) (w : World) :
    CallsD Tryz.prog 73 #[.pointer (some a), .pointer (some c)] .returning w fun e u' w' => e = .returned (.tuple #[]) ∧ u' = .returning ∧ w' = w := by
  refine callsD_of_wpS Tryz.func73 rfl fun c₀ cs hu => ?_
  apply wpS_seq
  apply wpS_region
  simp [wpOpsS, go_sem, recoverD, hu, Tryz.ntmps73, Exit.thenS]
  rw [show (#[Value.pointer (some a), Value.pointer (some c)] ++ ((Array.replicate 13 undef).setIfInBounds 3 (.nilIface)).setIfInBounds 0 (.nilIface) : Array Value) = #[Value.pointer (some a), Value.pointer (some c), .nilIface, undef, undef, .nilIface, undef, undef, undef, undef, undef, undef, undef, undef, undef] from rfl]
  refine wpS_of_wp ?_
  have hel := fun w9 => eql_nil13 w9
  go_wp2_with fail
  simp only [bodyPostS]
  cases c₀
  simp_all [results, Tryz.results73]
end Go.Proofs.YtnilempeldlieaaGreat
namespace Go.Proofs.YtnilempeldlieaaGreat
open Go.RowKit Flt
set_option maxRecDepth 100000
theorem onl_then13 {b : Nat} {w w1 w2 : World} (h : Onl13 b w w1) (hb : Below w.heap.size w1 w2) : Onl13 b w w2 :=
  ⟨hb.os.trans h.os, hb.tape.trans h.tape, hb.output.trans h.output, Nat.le_trans h.size hb.size, fun k hk hne => (hb.block k hk).trans (h.block k hk hne)⟩
def Dn13 (w : World) (b base : Nat) (s : Int) (n : Nat) (SA : Option Addr) (da : Nat) (r : Rs) (e : Ending) (w' : World) : Prop :=
  Onl13 b w w' ∧ (r.2.2 ≠ 0 → e = .returned (.tuple #[.int .i64 0, .int .i64 r.2.2])) ∧ (r.2.2 = 0 → e = .returned (.tuple #[.int .i64 r.2.1, .int .i64 0]) ∧ ∃ A' c', CL13 w' b r.1 A' c' s n SA da ∧ Fr13 w' base A' c' r.1.objs)
theorem dn_stop13 {w w' : World} {b base : Nat} {s : Int} {n : Nat} {SA : Option Addr} {da : Nat} {r : Rs} {en : Int} (hb : Onl13 b w w') (hr : r.2.2 = en) (h0 : en ≠ 0) : Dn13 w b base s n SA da r (.returned (.tuple #[.int .i64 0, .int .i64 en])) w' := by
  subst hr
  exact ⟨hb, fun _ => rfl, fun h => absurd h h0⟩
theorem below_drewN13 (w : World) (n : Nat) : Below w.heap.size w (w.drewN n) := ⟨rfl, rfl, rfl, Nat.le_refl _, fun _ _ => rfl⟩
theorem grownBy_lies13 {g k : Nat} {w w' : World} {t : TypeId} {cs : Array Value} (h : Onl13 g w w') (hl : Lies w k t cs) (hne : k ≠ g) : Lies w' k t cs := by
  show w'.heap[k]? = _
  rw [h.block k hl.lt (by intro e; injection e with e; exact hne e)]; exact hl
theorem Fr13.onl {w w' : World} {base b : Nat} {A : Option Addr} {c : Nat} {os : List Ob} {cs : Array Value} (f : Fr13 w base A c os) (h : Onl13 b w w') (hb : Lies w b 62 cs) : Fr13 w' base A c os := by
  obtain ⟨ls, ho, e⟩ := f
  exact ⟨ls, ⟨ho.row.kept h (.inr (own_blk_ne ho.row hb (by decide))), fun i l hl => (ho.ints i l hl).kept h (.inr (own_blk_ne (ho.ints i l hl) hb (by decide))), ho.apart⟩, e⟩
theorem Fr13.low {w : World} {base : Nat} {A : Option Addr} {c : Nat} {os : List Ob} (f : Fr13 w base A c os) {p : Addr} (hp : p.block < base) (u : Value) : Fr13 (w.setCell p u) base A c os := by
  obtain ⟨ls, ho, e⟩ := f
  exact ⟨ls, ho.low hp u, e⟩
set_option maxHeartbeats 4000000 in
theorem done_any13 (b base : Nat) (h : Hp) (A : Option Addr) (c : Nat) (s : Int) (args : List Int) (SA : Option Addr) (da : Nat) (w : World) (I : In13 w b base h A c s args SA da) (num : Int) :
    Calls Tryz.prog 40 #[.pointer (some ⟨b, 0, none⟩), .int .i64 num] w (Dn13 w b base s args.length SA da (if ar13 num ≠ some args.length then fa13 h else pr13 h num s (args.getD 0 0) (args.getD 1 0))) := by
  have hmf : ∀ (fn : Fn) (first cap : Array Value) (w : World), (Instr.makeFunc fn first cap).run Tryz.prog w = .ok (.func fn first cap) w := fun _ _ _ _ => rfl
  obtain ⟨rr, hrr⟩ : ∃ r : Rs, r = (if ar13 num ≠ some args.length then fa13 h else pr13 h num s (args.getD 0 0) (args.getD 1 0)) := ⟨_, rfl⟩
  rw [← hrr]
  have HRR := hid hrr
  clear hrr
  have HI := hid I
  obtain ⟨w0, hw0⟩ : ∃ u, u = (w.alloc (.cells #[.int .i64 0] 3)).alloc (.cells #[.int .i64 0] 25) := ⟨_, rfl⟩
  obtain ⟨a, ha⟩ : ∃ a, a = w.heap.size := ⟨_, rfl⟩
  obtain ⟨cc, hc⟩ : ∃ c, c = w.heap.size + 1 := ⟨_, rfl⟩
  have HA0 : Hid (Lies w0 a 3 #[.int .i64 0]) := by show Lies _ _ _ _; rw [hw0, ha]; exact (Lies.new w 3 _).alloc _
  have HC0 : Hid (Lies w0 cc 25 #[.int .i64 0]) := by
    show Lies _ _ _ _
    have := Lies.new (w.alloc (.cells #[.int .i64 0] 3)) 25 #[.int .i64 0]
    rw [hw0, hc]
    simpa using this
  have HW0 : Hid (Below w.heap.size w w0) := by show Below _ _ _; rw [hw0]; exact below_alloc2 w _ _
  have HLA : Hid (w.heap.size ≤ a) := by show _ ≤ _; omega
  have HLC : Hid (w.heap.size ≤ cc) := by show _ ≤ _; omega
  have HAC : Hid (a ≠ cc) := by show _ ≠ _; omega
  have HBA : Hid (b < a) := by show _ < _; have := I.box.lt; omega
  have HCA : Hid (cc = a + 1) := by show _ = _; omega
  have I0 := hid (I.later HW0.out)
  clear I
  go_enter_defers Tryz.func40, Tryz.ntmps40
  go_upto_region 2 with fail
  rw [← hw0, ← hc, ← ha]
  clear hw0 hc ha
  go_wp2_with fail
  by_cases hn : num < 1 ∨ 27 < num
  · have hA : Hid (rr = fa13 h) := by show _ = _; rw [HRR.out, if_pos (by unfold ar13; rw [if_pos hn]; simp)]
    refine (numbered_no13 num hn _).mono ?_
    rintro e w1 ⟨rfl, hb⟩
    have I1 := hid (I0.out.later hb)
    have HW1 := hid (then_w HW0.out hb)
    have HA1 := hid (HA0.out.later hb)
    have HC1 := hid (HC0.out.later hb)
    clear hb
    go_upto_region 3 with fail
    obtain ⟨w2, hw2⟩ : ∃ x, x = w1.alloc (.cells #[.int .i64 0, .nilFunc] 69) := ⟨_, rfl⟩
    obtain ⟨bp, hbp⟩ : ∃ x, x = w1.heap.size := ⟨_, rfl⟩
    have P2 : Hid (Lies w2 bp 69 #[.int .i64 0, .nilFunc]) := by show Lies _ _ _ _; rw [hw2, hbp]; exact Lies.new _ _ _
    have hb2 : Below w1.heap.size w1 w2 := by rw [hw2]; exact below_alloc _ _
    rw [← hw2, ← hbp]
    clear hw2 hbp
    have I2 := hid (I1.out.later hb2)
    have HW2 := hid (then_w HW1.out hb2)
    have HA2 := hid (HA1.out.later hb2)
    have HC2 := hid (HC1.out.later hb2)
    clear hb2
    obtain ⟨x0, x1, x2, x3, x4⟩ := I2.out.box.c5
    obtain ⟨p0, p1⟩ := P2.out.c2
    go_quiet (fail)
    generalize hq : World.drewN w2 _ = w3
    have hb3 : Below w2.heap.size w2 w3 := by rw [← hq]; exact below_drewN13 _ _
    have HKA := hid (HA2.out.later hb3)
    have HKC := hid (HC2.out.later hb3)
    have HX := hid (onl_below13 (g := b) (then_w HW2.out hb3))
    clear hb3 hq
    go_wp2_with (go_at_call 74; refine (fail_any13 _).mono ?_; rintro e w9 ⟨rfl, rfl⟩)
    go_wp2_with fail
    refine leaves_cons (f := 73) (args := #[.pointer (some ⟨a, 0, none⟩), .pointer (some ⟨cc, 0, none⟩)]) (by simp) (by simp [go_sem]) ?_
    refine (catch_stop13 a cc 130 _ _ _ HKA.out HKC.out HAC.out).mono ?_
    rintro e u' w8 ⟨rfl, hs, ka, kc, hbel⟩
    have r0 := ka.cell 0
    have r1 := kc.cell 0
    simp only [List.getElem?_toArray, List.getElem?_cons_zero] at r0 r1
    show Leaves _ _ _ _ [] (settle u') w8
    rw [hs]
    refine ⟨.tuple #[.int .i64 0, .int .i64 130], by simp [results, Tryz.results40, go_sem, r0, r1], ?_⟩
    exact dn_stop13 (onl_then13 HX.out (hbel w.heap.size HLA.out HLC.out)) (by rw [hA.out]; rfl) (by decide)
  obtain ⟨k, rfl⟩ : ∃ k : Nat, num = k := ⟨num.toNat, by omega⟩
  have hk1 : 1 ≤ k := by omega
  have hk27 : k ≤ 27 := by omega
  obtain ⟨na, K, cap, har, htb0, htb1, hek, hcall⟩ := row13 k hk1 hk27 (w0.heap.size + 1)
  have HAR := hid har
  have HEK := hid hek
  clear hek
  have HCALL := hid (fun u U => hcall b base h A c s args SA da u U)
  refine (numbered_ok13 k hk1 hk27 na K cap _ htb0 htb1).mono ?_
  rintro e w1 ⟨rfl, hb, hkv⟩
  clear har htb0 htb1 hcall
  have I1 := hid (I0.out.later hb)
  have HW1 := hid (then_w HW0.out hb)
  have HA1 := hid (HA0.out.later hb)
  have HC1 := hid (HC0.out.later hb)
  have HKV1 := hid hkv
  clear hb hkv
  go_upto_region 3 with fail
  obtain ⟨w2, hw2⟩ : ∃ x, x = w1.alloc (.cells #[.int .i64 (na : Int), .func (.func K) #[] cap] 69) := ⟨_, rfl⟩
  obtain ⟨bp, hbp⟩ : ∃ x, x = w1.heap.size := ⟨_, rfl⟩
  have P2 : Hid (Lies w2 bp 69 #[.int .i64 (na : Int), .func (.func K) #[] cap]) := by show Lies _ _ _ _; rw [hw2, hbp]; exact Lies.new _ _ _
  have hb2 : Below w1.heap.size w1 w2 := by rw [hw2]; exact below_alloc _ _
  rw [← hw2, ← hbp]
  clear hw2 hbp
  have I2 := hid (I1.out.later hb2)
  have HW2 := hid (then_w HW1.out hb2)
  have HA2 := hid (HA1.out.later hb2)
  have HC2 := hid (HC1.out.later hb2)
  have HKV2 : Hid (∀ (j : Nat) (v : Value), kv13[j]? = some v → w2.cell? ⟨w0.heap.size + 1 + j, 0, none⟩ = some v) := by
    show ∀ (j : Nat) (v : Value), _
    intro j v hv
    exact cell_later hb2 (HKV1.out j v hv)
  have HBN : Hid (b < w0.heap.size + 1) := by show _ < _; have h1 := HBA.out; have h2 := HA0.out.lt; omega
  clear hb2
  obtain ⟨x0, x1, x2, x3, x4⟩ := I2.out.box.c5
  obtain ⟨p0, p1⟩ := P2.out.c2
  by_cases hl : args.length = na
  case neg =>
    have hA : Hid (rr = fa13 h) := by show _ = _; rw [HRR.out, if_pos (by rw [HAR.out]; intro e; injection e with e; exact hl e.symm)]
    have hl1 : ¬ (args.length : Int) = (na : Int) := by omega
    have hl2 : ((args.length : Int) != (na : Int)) = true := by simpa using hl1
    go_quiet (fail)
    generalize hq : World.drewN w2 _ = w3
    have hb3 : Below w2.heap.size w2 w3 := by rw [← hq]; exact below_drewN13 _ _
    have HKA := hid (HA2.out.later hb3)
    have HKC := hid (HC2.out.later hb3)
    have HX := hid (onl_below13 (g := b) (then_w HW2.out hb3))
    clear hb3 hq
    go_wp2_with (go_at_call 74; refine (fail_any13 _).mono ?_; rintro e w9 ⟨rfl, rfl⟩)
    go_wp2_with fail
    refine leaves_cons (f := 73) (args := #[.pointer (some ⟨a, 0, none⟩), .pointer (some ⟨cc, 0, none⟩)]) (by simp) (by simp [go_sem]) ?_
    refine (catch_stop13 a cc 130 _ _ _ HKA.out HKC.out HAC.out).mono ?_
    rintro e u' w8 ⟨rfl, hs, ka, kc, hbel⟩
    have r0 := ka.cell 0
    have r1 := kc.cell 0
    simp only [List.getElem?_toArray, List.getElem?_cons_zero] at r0 r1
    show Leaves _ _ _ _ [] (settle u') w8
    rw [hs]
    refine ⟨.tuple #[.int .i64 0, .int .i64 130], by simp [results, Tryz.results40, go_sem, r0, r1], ?_⟩
    exact dn_stop13 (onl_then13 HX.out (hbel w.heap.size HLA.out HLC.out)) (by rw [hA.out]; rfl) (by decide)
  subst hl
  have HR2 : Hid (rr = pr13 h k s (args.getD 0 0) (args.getD 1 0)) := by show _ = _; rw [HRR.out, if_neg (by rw [HAR.out]; simp)]
  have hl1 : ((args.length : Int) != (args.length : Int)) = false := by simp
  go_quiet (fail)
  generalize hq : World.drewN w2 _ = w3
  have hb3 : Below w2.heap.size w2 w3 := by rw [← hq]; exact below_drewN13 _ _
  have I3 := hid (I2.out.later hb3)
  have HA3 := hid (HA2.out.later hb3)
  have HC3 := hid (HC2.out.later hb3)
  have HW3 := hid (then_w HW2.out hb3)
  have P3 := hid (P2.out.later hb3)
  have HF := hid (HCALL.out w3 I3.out rfl (fun j v hv => cell_later hb3 (HKV2.out j v hv)) HBN.out)
  clear hb3 hq x0 x1 x2 x3 x4 p0 p1 hl1
  obtain ⟨p0, p1⟩ := P3.out.c2
  rcases HF.out with ⟨hcap, hc⟩ | ⟨kb, hcap, hc⟩
  · subst hcap
    have HC := hid hc
    clear hc
    have heK := HEK.out
    go_wp2_with fail
    clear heK
    refine HC.out.mono ?_
    rintro e w4 PP
    rw [← HR2.out] at PP
    have HA4 := hid (grownBy_lies13 PP.1 HA3.out (by have := HBA.out; omega))
    have HC4 := hid (grownBy_lies13 PP.1 HC3.out (by have h1 := HBA.out; have h2 := HCA.out; omega))
    have HX := hid ((onl_below13 (g := b) HW3.out).trans PP.1)
    by_cases h0 : rr.2.2 = 0
    case neg =>
      obtain rfl := PP.2.1 h0
      have HKA := HA4
      have HKC := HC4
      go_wp2_with fail
      refine leaves_cons (f := 73) (args := #[.pointer (some ⟨a, 0, none⟩), .pointer (some ⟨cc, 0, none⟩)]) (by simp) (by simp [go_sem]) ?_
      refine (catch_stop13 a cc rr.2.2 _ _ _ HKA.out HKC.out HAC.out).mono ?_
      rintro e u' w8 ⟨rfl, hs, ka, kc, hbel⟩
      have r0 := ka.cell 0
      have r1 := kc.cell 0
      simp only [List.getElem?_toArray, List.getElem?_cons_zero] at r0 r1
      show Leaves _ _ _ _ [] (settle u') w8
      rw [hs]
      refine ⟨.tuple #[.int .i64 0, .int .i64 rr.2.2], by simp [results, Tryz.results40, go_sem, r0, r1], ?_⟩
      exact dn_stop13 (onl_then13 HX.out (hbel w.heap.size HLA.out HLC.out)) rfl h0
    obtain ⟨rfl, A2, c2, kc, ko⟩ := PP.2.2 h0
    have KC := hid kc
    have KO := hid ko
    have H0 := hid h0
    clear PP kc ko h0
    have a0 := HA4.out.cell 0
    have c0 := HC4.out.cell 0
    have fa0 := HA4.out.frozen 0
    have fc0 := HC4.out.frozen 0
    simp only [List.getElem?_toArray, List.getElem?_cons_zero] at a0 c0
    have hac := HAC.out
    have hac2 := HAC.out.symm
    go_wp2_with fail
    refine leaves_cons (f := 73) (args := #[.pointer (some ⟨a, 0, none⟩), .pointer (some ⟨cc, 0, none⟩)]) (by simp) (by simp [go_sem]) ?_
    refine (catch_none13 _ _ _).mono ?_
    rintro e u' w8 ⟨rfl, rfl, hW⟩
    have XA := (HA4.out.set_ 0 (.int .i64 rr.2.1)).far (p := ⟨cc, 0, none⟩) hac (.int .i64 0)
    have XC := (HC4.out.far (p := ⟨a, 0, none⟩) hac2 (.int .i64 rr.2.1)).set_ 0 (.int .i64 0)
    have XB : Below w.heap.size w4 ((w4.setCell ⟨a, 0, none⟩ (.int .i64 rr.2.1)).setCell ⟨cc, 0, none⟩ (.int .i64 0)) := ((Below.refl _ w4).setCell (p := ⟨a, 0, none⟩) HLA.out _).setCell (p := ⟨cc, 0, none⟩) HLC.out _
    have XK := (KC.out.far (p := ⟨a, 0, none⟩) (by have := HBA.out; show b ≠ a; omega) (.int .i64 rr.2.1)).far (p := ⟨cc, 0, none⟩) (by have h1 := HBA.out; have h2 := HCA.out; show b ≠ cc; omega) (.int .i64 0)
    have XO : Fr13 ((w4.setCell ⟨a, 0, none⟩ (.int .i64 rr.2.1)).setCell ⟨cc, 0, none⟩ (.int .i64 0)) base A2 c2 rr.1.objs := by
      rcases KO.out with ⟨rfl, rfl, e⟩ | f
      · rw [e]
        exact HI.out.own.onl (onl_then13 HX.out XB) HI.out.box
      · exact ((f.low (p := ⟨a, 0, none⟩) HA3.out.lt _).low (p := ⟨cc, 0, none⟩) HC3.out.lt _).lower (Nat.le_trans HI.out.low HW3.out.size)
    rw [← hW] at XA XC XB XK XO
    have r0 := XA.cell 0
    have r1 := XC.cell 0
    simp only [List.setIfInBounds_toArray, List.set_cons_zero, List.getElem?_toArray, List.getElem?_cons_zero] at r0 r1
    refine ⟨.tuple #[.int .i64 rr.2.1, .int .i64 0], by simp [results, Tryz.results40, go_sem, r0, r1], ?_⟩
    exact ⟨onl_then13 HX.out XB, fun hh => absurd H0.out hh, fun _ => ⟨rfl, A2, c2, XK, XO⟩⟩
  · subst hcap
    have HC := hid hc
    clear hc
    have heK := HEK.out
    go_wp2_with fail
    clear heK
    refine HC.out.mono ?_
    rintro e w4 PP
    rw [← HR2.out] at PP
    have HA4 := hid (grownBy_lies13 PP.1 HA3.out (by have := HBA.out; omega))
    have HC4 := hid (grownBy_lies13 PP.1 HC3.out (by have h1 := HBA.out; have h2 := HCA.out; omega))
    have HX := hid ((onl_below13 (g := b) HW3.out).trans PP.1)
    by_cases h0 : rr.2.2 = 0
    case neg =>
      obtain rfl := PP.2.1 h0
      have HKA := HA4
      have HKC := HC4
      go_wp2_with fail
      refine leaves_cons (f := 73) (args := #[.pointer (some ⟨a, 0, none⟩), .pointer (some ⟨cc, 0, none⟩)]) (by simp) (by simp [go_sem]) ?_
      refine (catch_stop13 a cc rr.2.2 _ _ _ HKA.out HKC.out HAC.out).mono ?_
      rintro e u' w8 ⟨rfl, hs, ka, kc, hbel⟩
      have r0 := ka.cell 0
      have r1 := kc.cell 0
      simp only [List.getElem?_toArray, List.getElem?_cons_zero] at r0 r1
      show Leaves _ _ _ _ [] (settle u') w8
      rw [hs]
      refine ⟨.tuple #[.int .i64 0, .int .i64 rr.2.2], by simp [results, Tryz.results40, go_sem, r0, r1], ?_⟩
      exact dn_stop13 (onl_then13 HX.out (hbel w.heap.size HLA.out HLC.out)) rfl h0
    obtain ⟨rfl, A2, c2, kc, ko⟩ := PP.2.2 h0
    have KC := hid kc
    have KO := hid ko
    have H0 := hid h0
    clear PP kc ko h0
    have a0 := HA4.out.cell 0
    have c0 := HC4.out.cell 0
    have fa0 := HA4.out.frozen 0
    have fc0 := HC4.out.frozen 0
    simp only [List.getElem?_toArray, List.getElem?_cons_zero] at a0 c0
    have hac := HAC.out
    have hac2 := HAC.out.symm
    go_wp2_with fail
    refine leaves_cons (f := 73) (args := #[.pointer (some ⟨a, 0, none⟩), .pointer (some ⟨cc, 0, none⟩)]) (by simp) (by simp [go_sem]) ?_
    refine (catch_none13 _ _ _).mono ?_
    rintro e u' w8 ⟨rfl, rfl, hW⟩
    have XA := (HA4.out.set_ 0 (.int .i64 rr.2.1)).far (p := ⟨cc, 0, none⟩) hac (.int .i64 0)
    have XC := (HC4.out.far (p := ⟨a, 0, none⟩) hac2 (.int .i64 rr.2.1)).set_ 0 (.int .i64 0)
    have XB : Below w.heap.size w4 ((w4.setCell ⟨a, 0, none⟩ (.int .i64 rr.2.1)).setCell ⟨cc, 0, none⟩ (.int .i64 0)) := ((Below.refl _ w4).setCell (p := ⟨a, 0, none⟩) HLA.out _).setCell (p := ⟨cc, 0, none⟩) HLC.out _
    have XK := (KC.out.far (p := ⟨a, 0, none⟩) (by have := HBA.out; show b ≠ a; omega) (.int .i64 rr.2.1)).far (p := ⟨cc, 0, none⟩) (by have h1 := HBA.out; have h2 := HCA.out; show b ≠ cc; omega) (.int .i64 0)
    have XO : Fr13 ((w4.setCell ⟨a, 0, none⟩ (.int .i64 rr.2.1)).setCell ⟨cc, 0, none⟩ (.int .i64 0)) base A2 c2 rr.1.objs := by
      rcases KO.out with ⟨rfl, rfl, e⟩ | f
      · rw [e]
        exact HI.out.own.onl (onl_then13 HX.out XB) HI.out.box
      · exact ((f.low (p := ⟨a, 0, none⟩) HA3.out.lt _).low (p := ⟨cc, 0, none⟩) HC3.out.lt _).lower (Nat.le_trans HI.out.low HW3.out.size)
    rw [← hW] at XA XC XB XK XO
    have r0 := XA.cell 0
    have r1 := XC.cell 0
    simp only [List.setIfInBounds_toArray, List.set_cons_zero, List.getElem?_toArray, List.getElem?_cons_zero] at r0 r1
    refine ⟨.tuple #[.int .i64 rr.2.1, .int .i64 0], by simp [results, Tryz.results40, go_sem, r0, r1], ?_⟩
    exact ⟨onl_then13 HX.out XB, fun hh => absurd H0.out hh, fun _ => ⟨rfl, A2, c2, XK, XO⟩⟩
end Go.Proofs.YtnilempeldlieaaGreat
namespace Go.Proofs.YtnilempeldlieaaGreat
open Go.RowKit Flt
set_option maxRecDepth 100000
def HeapOV13 (w : World) (r : Rs) (e : Ending) (w' : World) : Prop := ∃ A c, e = .returned (.tuple #[.agg #[.slice A r.1.objs.length c, .int .i64 r.1.cap, .int .i64 r.1.last], .int .i64 r.2.1, .int .i64 r.2.2]) ∧ Fr13 w' w.heap.size A c r.1.objs ∧ Below w.heap.size w w'
def Ok13 (h : Hp) (r : Rs) : Prop := r.2.2 ≠ 0 → r = (h, 0, r.2.2)
theorem ok_ite13 {h : Hp} {p : Prop} [Decidable p] {x y : Rs} (hx : Ok13 h x) (hy : Ok13 h y) : Ok13 h (if p then x else y) := by
  by_cases hp : p
  · rw [if_pos hp]; exact hx
  · rw [if_neg hp]; exact hy
theorem ok_fa13 {h : Hp} : Ok13 h (fa13 h) := fun _ => rfl
theorem ok_err13 {h : Hp} (e : Int) : Ok13 h (h, 0, e) := fun _ => rfl
theorem ok_val13 {h g : Hp} {v : Int} : Ok13 h (g, v, 0) := fun hh => absurd rfl hh
theorem ok_in13 {h : Hp} {n : Int} : Ok13 h (in13 h n) := ok_ite13 ok_val13 ok_fa13
theorem ok_tr13 {h : Hp} {b : Bool} : Ok13 h (tr13 h b) := ok_val13
theorem ok_al13 {h : Hp} {a b c : Int} : Ok13 h (al13 h a b c) := ok_ite13 ok_val13 (ok_ite13 (ok_err13 _) ok_fa13)
theorem ok_nf13 {h : Hp} {b : Int} : Ok13 h (nf13 h b) := ok_ite13 ok_val13 (ok_ite13 (ok_err13 _) ok_fa13)
theorem ok_ff13 {h : Hp} {n s a : Int} : Ok13 h (ff13 h n s a) := by
  unfold ff13
  cases fl13 h s with
  | none => exact ok_fa13
  | some x =>
    refine ok_ite13 (ok_ite13 ok_in13 ok_fa13) (ok_ite13 ok_nf13 ?_)
    cases fl13 h a with
    | none => exact ok_fa13
    | some y => exact ok_ite13 ok_tr13 (ok_ite13 ok_tr13 ok_nf13)
theorem ok_pr13 {h : Hp} {num s a b : Int} : Ok13 h (pr13 h num s a b) := by
  unfold pr13 wh13 pa13 fr13 id13
  repeat' (first | exact ok_ff13 | exact ok_in13 | exact ok_tr13 | exact ok_al13 | exact ok_fa13 | exact ok_val13 | apply ok_ite13)
theorem pr_fail13 {h : Hp} {num s a b : Int} (hr : (pr13 h num s a b).2.2 ≠ 0) : pr13 h num s a b = (h, 0, (pr13 h num s a b).2.2) := ok_pr13 hr
theorem below_onl13 {B b : Nat} {w w1 w2 : World} (h : Onl13 b w1 w2) (hb : Below B w w1) (hB : B ≤ b) (hs : B ≤ w1.heap.size) : Below B w w2 :=
  hb.grown h hs (fun k hk => by injection hk with hk; omega)
theorem Fr13.h3 {w : World} {base g : Nat} {A : Option Addr} {c : Nat} {os : List Ob} {cs : Array Value} (f : Fr13 w base A c os) (hB : Lies w g 24 cs) (x y z : Value) :
    Fr13 (((w.setCell ⟨g, 0, none⟩ x).setCell ⟨g, 1, none⟩ y).setCell ⟨g, 2, none⟩ z) base A c os := by
  obtain ⟨ls, h, e⟩ := f
  exact ⟨ls, ((h.off hB 0 x).off (hB.set_ 0 x) 1 y).off ((hB.set_ 0 x).set_ 1 y) 2 z, e⟩
set_option maxHeartbeats 2000000 in
theorem cdo_any13 (h : Hp) (num s : Int) (args : List Int) (SA : Option Addr) (da : Nat) (A : Option Addr) (c : Nat) (w : World) (hs : ObsR w A h.objs) (fit : h.Fit) (hsa : IntsR w SA args) (hal : args.length ≤ 9223372036854775807) (wd : ∀ o ∈ h.objs, In64 o.bits) :
    Calls Tryz.prog 20 #[.agg #[.slice A h.objs.length c, .int .i64 h.cap, .int .i64 h.last], .int .i64 num, .int .i64 s, .slice SA args.length da] w (HeapOV13 w (do13 h num s args)) := by
  obtain ⟨rr, hrr⟩ : ∃ r : Rs, r = do13 h num s args := ⟨_, rfl⟩
  rw [← hrr]
  have HRR := hid hrr
  clear hrr
  obtain ⟨w0, hw0⟩ : ∃ u, u = (w.alloc (.cells #[Value.slice A h.objs.length c, Value.int .i64 h.cap, Value.int .i64 h.last] 24)).alloc (.cells #[.slice none 0 0, .int .i64 0, .int .i64 0] 24) := ⟨_, rfl⟩
  obtain ⟨bK, hbK⟩ : ∃ x, x = w.heap.size + 1 := ⟨_, rfl⟩
  have HB0 : Hid (Below w.heap.size w w0) := by show Below _ _ _; rw [hw0]; exact below_alloc2 w _ _
  have HX0 : Hid (Lies w0 w.heap.size 24 #[Value.slice A h.objs.length c, Value.int .i64 h.cap, Value.int .i64 h.last]) := by show Lies _ _ _ _; rw [hw0]; exact (Lies.new w _ _).alloc _
  have HK0 : Hid (Lies w0 bK 24 #[.slice none 0 0, .int .i64 0, .int .i64 0]) := by
    show Lies _ _ _ _
    have := Lies.new (w.alloc (.cells #[Value.slice A h.objs.length c, Value.int .i64 h.cap, Value.int .i64 h.last] 24)) 24 #[.slice none 0 0, .int .i64 0, .int .i64 0]
    rw [hw0, hbK]
    simpa using this
  have HLK : Hid (w.heap.size ≤ bK) := by show _ ≤ _; omega
  have HS := hid hs
  have HF := hid fit
  have HSA := hid hsa
  have HAL := hid hal
  have HWD := hid wd
  clear hs fit hsa hal wd
  go_enter Tryz.func20, Tryz.ntmps20
  go_upto_region 1 with fail
  rw [← hw0, ← hbK]
  clear hw0 hbK
  obtain ⟨x0, x1, x2⟩ := HX0.out.c3
  go_wp2_with fail
  refine (asked_any13 h s args SA da A c _ (HS.out.below HB0.out) HF.out (HSA.out.below HB0.out) HAL.out).mono ?_
  rintro e w1 ⟨rfl, hb⟩
  have HB1 := hid (then_w HB0.out hb)
  have HX1 := hid (HX0.out.later hb)
  have HK1 := hid (HK0.out.later hb)
  clear hb x0 x1 x2
  obtain ⟨x0, x1, x2⟩ := HX1.out.c3
  obtain ⟨bq, hbq⟩ : ∃ b, b = (mayB h && (decide (12 ≤ h.objs.length) && (hasB h.objs.length s && args.all (hasB h.objs.length)))) := ⟨_, rfl⟩
  rw [← hbq]
  have HBQ := hid hbq
  clear hbq
  cases bq
  · have hd : Hid (rr = (⟨[], 0, 0⟩, 0, 1)) := by
      show _ = _
      rw [HRR.out]
      unfold do13
      rw [if_pos]
      have hq := HBQ.out
      rcases hm : mayB h with _ | _
      · exact .inl rfl
      right
      by_cases h12 : h.objs.length < 12
      · exact .inl h12
      right
      rw [hm, decide_eq_true (show 12 ≤ h.objs.length by omega)] at hq
      cases hv : hasB h.objs.length s
      · exact .inl rfl
      right
      rw [hv] at hq
      simpa using hq.symm
    obtain ⟨u0, u1, u2⟩ := HK1.out.c3
    obtain ⟨uf0, uf1, uf2⟩ := HK1.out.f3
    go_wp2_with fail
    have KO := hid ((show Fr13 w1 w.heap.size none 0 [] from ⟨[], OwnH.nil _ _, rfl⟩).h3 HK1.out (.slice none 0 0) (.int .i64 0) (.int .i64 0))
    obtain ⟨r0, r1, r2⟩ := HK1.out.s3 (.slice none 0 0) (.int .i64 0) (.int .i64 0)
    have HBE := below_s3 (g := bK) HB1.out HLK.out (.slice none 0 0) (.int .i64 0) (.int .i64 0)
    refine bodyPost_ret (v := .tuple #[.agg #[.slice none 0 0, .int .i64 0, .int .i64 0], .int .i64 0, .int .i64 1]) (by simp [results, Tryz.results20, go_sem, r0, r1, r2]) rfl ?_
    rw [hd.out]
    exact ⟨none, 0, rfl, KO.out, HBE⟩
  have hq := HBQ.out.symm
  simp only [Bool.and_eq_true, decide_eq_true_eq] at hq
  obtain ⟨hm, h12, hv, hall⟩ := hq
  have HM := hid hm
  have HR2 : Hid (rr = if ar13 num ≠ some args.length then fa13 h else pr13 h num s (args.getD 0 0) (args.getD 1 0)) := by
    show _ = _
    rw [HRR.out]
    unfold do13
    rw [if_neg (by rw [hm, hv, hall]; simp; omega)]
  have HH12 := hid h12
  have HHV := hid hv
  have HALL := hid hall
  clear hm h12 hv hall
  go_wp2_with fail
  refine (pclone_h13 h A c _ (HS.out.below HB1.out) HM.out).mono ?_
  rintro e w2 ⟨A1, c1, l1, rfl, hm1, ho1, hb⟩
  have HB2 := hid (then_w HB1.out hb)
  have HX2 := hid (HX1.out.later hb)
  have HK2 := hid (HK1.out.later hb)
  have HO2 : Hid (Fr13 w2 w.heap.size A1 c1 h.objs) := hid ⟨l1, ho1.lower HB1.out.size, hm1⟩
  clear hb hm1 ho1 x0 x1 x2
  go_upto_region 4 with fail
  obtain ⟨w3, hw3⟩ : ∃ x, x = w2.alloc (.cells #[.slice A1 h.objs.length c1, .int .i64 h.cap, .int .i64 h.last, .int .i64 s, .slice SA args.length da] 62) := ⟨_, rfl⟩
  obtain ⟨b, hbb⟩ : ∃ x, x = w2.heap.size := ⟨_, rfl⟩
  have C3 : Hid (CL13 w3 b h A1 c1 s args.length SA da) := by show Lies _ _ _ _; rw [hw3, hbb]; exact Lies.new _ _ _
  have hb : Below w2.heap.size w2 w3 := by rw [hw3]; exact below_alloc _ _
  rw [← hw3, ← hbb]
  have HLB : Hid (w.heap.size ≤ b) := by show _ ≤ _; rw [hbb]; exact HB2.out.size
  have HBX : Hid (w.heap.size ≠ b) := by show _ ≠ _; rw [hbb]; exact Nat.ne_of_lt HX2.out.lt
  have HBK : Hid (bK ≠ b) := by show _ ≠ _; rw [hbb]; exact Nat.ne_of_lt HK2.out.lt
  clear hw3 hbb
  have HB3 := hid (then_w HB2.out hb)
  have HX3 := hid (HX2.out.later hb)
  have HK3 := hid (HK2.out.later hb)
  have I3 : Hid (In13 w3 b w.heap.size h A1 c1 s args SA da) := hid {
    box := C3.out
    own := HO2.out.later hb
    ints := HSA.out.below HB3.out
    may := HM.out
    wd := HWD.out
    has := HHV.out
    hall := HALL.out
    n12 := HH12.out
    low := HB3.out.size
    far := fun hn q e => by
      obtain ⟨p, o, e2, hlt, -⟩ := HSA.out hn
      rw [e] at e2
      injection e2 with e2
      rw [e2]
      show p ≠ b
      have := HLB.out
      omega }
  clear hb
  go_wp2_with fail
  refine (done_any13 b w.heap.size h A1 c1 s args SA da _ I3.out num).mono ?_
  rintro e w4 PP
  rw [← HR2.out] at PP
  have HX4 := hid (grownBy_lies13 PP.1 HX3.out HBX.out)
  have HK4 := hid (grownBy_lies13 PP.1 HK3.out HBK.out)
  have HB4 := hid (below_onl13 PP.1 HB3.out HLB.out HB3.out.size)
  by_cases h0 : rr.2.2 = 0
  case neg =>
    obtain rfl := PP.2.1 h0
    have HE : Hid (rr = (h, 0, rr.2.2)) := by
      show _ = _
      by_cases hc : ar13 num ≠ some args.length
      · rw [HR2.out, if_pos hc]; rfl
      · have e := HR2.out
        rw [if_neg hc] at e
        have h1 := pr_fail13 (h := h) (num := num) (s := s) (a := args.getD 0 0) (b := args.getD 1 0) (by rw [← e]; exact h0)
        rw [← e] at h1
        exact h1
    clear PP
    obtain ⟨en, hen⟩ : ∃ e, e = rr.2.2 := ⟨_, rfl⟩
    rw [← hen] at h0 HE ⊢
    clear hen
    obtain ⟨x0, x1, x2⟩ := HX4.out.c3
    go_wp2_with fail
    refine (pclone_h13 h A c _ (HS.out.below HB4.out) HM.out).mono ?_
    rintro e w5 ⟨A5, c5, l5, rfl, hm5, ho5, hb⟩
    have HB5 := hid (then_w HB4.out hb)
    have HK5 := hid (HK4.out.later hb)
    have HO5 : Hid (Fr13 w5 w.heap.size A5 c5 h.objs) := hid ⟨l5, ho5.lower HB4.out.size, hm5⟩
    clear hb hm5 ho5 x0 x1 x2
    obtain ⟨u0, u1, u2⟩ := HK5.out.c3
    obtain ⟨uf0, uf1, uf2⟩ := HK5.out.f3
    go_wp2_with fail
    have KO := hid (HO5.out.h3 HK5.out (.slice A5 h.objs.length c5) (.int .i64 h.cap) (.int .i64 h.last))
    obtain ⟨r0, r1, r2⟩ := HK5.out.s3 (.slice A5 h.objs.length c5) (.int .i64 h.cap) (.int .i64 h.last)
    have HBE := below_s3 (g := bK) HB5.out HLK.out (.slice A5 h.objs.length c5) (.int .i64 h.cap) (.int .i64 h.last)
    refine bodyPost_ret (v := .tuple #[.agg #[.slice A5 h.objs.length c5, .int .i64 h.cap, .int .i64 h.last], .int .i64 0, .int .i64 en]) (by simp [results, Tryz.results20, go_sem, r0, r1, r2]) rfl ?_
    rw [HE.out]
    exact ⟨A5, c5, rfl, KO.out, HBE⟩
  obtain ⟨rfl, A4, c4, kc, kf⟩ := PP.2.2 h0
  have KF := hid kf
  have KC := hid kc
  clear PP kf kc
  obtain ⟨y0, y1, y2, y3, y4⟩ := KC.out.c5
  obtain ⟨g, hg⟩ : ∃ g, g = rr.1 := ⟨_, rfl⟩
  obtain ⟨v, hv⟩ : ∃ v, v = rr.2.1 := ⟨_, rfl⟩
  rw [← hg] at y0 y1 y2 KF
  rw [← hv]
  have HG : Hid (rr = (g, v, 0)) := by show _ = _; rw [hg, hv, ← h0]
  clear hg hv h0
  obtain ⟨u0, u1, u2⟩ := HK4.out.c3
  obtain ⟨uf0, uf1, uf2⟩ := HK4.out.f3
  go_wp2_with fail
  have KO := hid (KF.out.h3 HK4.out (.slice A4 g.objs.length c4) (.int .i64 g.cap) (.int .i64 g.last))
  obtain ⟨r0, r1, r2⟩ := HK4.out.s3 (.slice A4 g.objs.length c4) (.int .i64 g.cap) (.int .i64 g.last)
  have HBE := below_s3 (g := bK) HB4.out HLK.out (.slice A4 g.objs.length c4) (.int .i64 g.cap) (.int .i64 g.last)
  refine bodyPost_ret (v := .tuple #[.agg #[.slice A4 g.objs.length c4, .int .i64 g.cap, .int .i64 g.last], .int .i64 v, .int .i64 0]) (by simp [results, Tryz.results20, go_sem, r0, r1, r2]) rfl ?_
  rw [HG.out]
  exact ⟨A4, c4, rfl, KO.out, HBE⟩
end Go.Proofs.YtnilempeldlieaaGreat
