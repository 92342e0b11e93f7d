/- The document's word on a line that is read. -/
import Derived.Test.YtobelbaeaamkkaaDoorSI11
namespace Go.Proofs.YtobelbaeaamkkaaDoor
open Go.RowKit
set_option maxRecDepth 100000
def rdv11 (b : List UInt8) : In × Bool := match rd11 b with
  | some x => (x, true)
  | none => (⟨0, 0⟩, false)
theorem rdv_yes11 {b : List UInt8} {x : In} (h : may11 x = true) (e : ln11 x = b) : rdv11 b = (x, true) := by
  unfold rdv11; rw [← e, rd_ln11 h]
theorem rdv_no11 {b : List UInt8} (h : ∀ x, may11 x = true → ln11 x ≠ b) : rdv11 b = (⟨0, 0⟩, false) := by
  have e : rd11 b = none := by
    unfold rd11
    rw [List.find?_eq_none]
    intro x hx
    have := h x (mem_ins11.1 hx)
    simpa using this
  unfold rdv11; rw [e]
theorem ln_head11 (x : In) : ∃ r, ln11 x = wd11 x.op ++ r := by
  unfold ln11
  split
  · exact ⟨[], by simp⟩
  · split
    · exact ⟨[32] ++ dg11 (x.a / 8) ++ [32] ++ dg11 (x.a % 8), by simp⟩
    · exact ⟨[32] ++ dg11 x.a, by simp⟩
def RdP11 (w : World) (b : List UInt8) (e : Ending) (w' : World) : Prop := e = .returned (.tuple #[.agg #[.int .i64 (rdv11 b).1.op, .int .i64 (rdv11 b).1.a], .bool (rdv11 b).2]) ∧ Below w.heap.size w w'
set_option maxHeartbeats 1500000 in
theorem read_any11 (b : List UInt8) (w : World) (_hb : b.length ≤ 1000) : Calls Tryd.prog 34 #[.string (str b)] w (RdP11 w b) := by
  have HB0 := hid (below_alloc w (.cells #[.int .i64 0, .int .i64 0] 34))
  have HR0 := hid (Lies.new w 34 #[.int .i64 0, .int .i64 0])
  have sb := str_size b
  go_enter Tryd.func34, Tryd.ntmps34
  go_wp2_with fail
  go_loopw [4] (fun i wr => ∃ k : Nat, k ≤ 19 ∧ i = .int .i64 k ∧ Hid (∀ x, may11 x = true → x.op < k → ln11 x ≠ b) ∧ Below w.heap.size w wr ∧ Lies wr w.heap.size 34 #[.int .i64 0, .int .i64 0]) (fun i _ => 20 - (intOf i).toNat)
  case atStart => exact ⟨0, by omega, rfl, fun x hm h => by have := (may_parts11 hm).1; omega, HB0.out, HR0.out⟩
  case round =>
    rename World => w50
    obtain ⟨k, hk19, rfl, HNO, hb50, hr50⟩ := hrel
    have HB := hid hb50
    have HR := hid hr50
    clear hb50 hr50
    have hkw : IntKind.i64.wrap ((k : Int) + 1) = (k : Int) + 1 := IntWalk.i64_in _ ⟨by omega, by omega⟩
    have hk0 : (0 : Int) ≤ (k : Int) := by omega
    by_cases hk : k < 19
    · have hkI : (k : Int) ≤ 18 := by omega
      have hkN : k ≤ 18 := by omega
      go_wp2_with fail
      refine (word_any11 k hk _).mono ?_
      rintro e w51 ⟨rfl, hb1⟩
      have HB1 := hid (then_w HB.out hb1)
      have HR1 := hid (HR.out.later hb1)
      clear hb1
      obtain ⟨W, hW⟩ : ∃ W, W = wd11 (k : Int) := ⟨_, rfl⟩
      have HNW : Hid ((∀ x, may11 x = true → x.op = k → ln11 x ≠ b) → ∀ x, may11 x = true → x.op < ((k + 1 : Nat) : Int) → ln11 x ≠ b) := fun h x hm hx => by
        by_cases e : x.op = k
        · exact h x hm e
        · exact HNO.out x hm (by omega)
      have HPRE : Hid (∀ x : In, x.op = k → ln11 x = b → W.length ≤ b.length ∧ b.take W.length = W) := fun x hx e => by
        obtain ⟨r, hr⟩ := ln_head11 x
        rw [← e, hr, hx, ← hW]
        exact ⟨by rw [List.length_append]; omega, by rw [List.take_left']; rfl⟩
      rw [← hW]
      have sw := str_size W
      clear hW
      by_cases h1 : b.length < W.length
      · have h1I : (b.length : Int) < (W.length : Int) := by omega
        have HN := hid (HNW.out fun x hm hx e => by have := (HPRE.out x hx e).1; omega)
        go_wp2_with fail
        go_roundw
        case rel => exact ⟨k + 1, by omega, by go_num, HN, HB1.out, HR1.out⟩
        case measure => simp only [intOf]; omega
      · have h1I : ¬ (b.length : Int) < (W.length : Int) := by omega
        have h1N : W.length ≤ b.length := by omega
        have h1J : (W.length : Int) ≤ (b.length : Int) := by omega
        have sx := str_extract b 0 W.length
        rw [List.drop_zero] at sx
        by_cases h2 : b.take W.length = W
        · rw [h2] at sx
          go_wp2_with fail
          go_loopw [6] (fun i wr => ∃ a : Nat, a ≤ 256 ∧ i = .int .i64 a ∧ Hid (∀ x, may11 x = true → x.op = k → x.a < a → ln11 x ≠ b) ∧ Below w.heap.size w wr ∧ Lies wr w.heap.size 34 #[.int .i64 0, .int .i64 0]) (fun i _ => 257 - (intOf i).toNat)
          case atStart => exact ⟨0, by omega, rfl, fun x hm _ h => by have := (may_parts11 hm).2.2.1; omega, HB1.out, HR1.out⟩
          case round =>
            rename World => w60
            obtain ⟨a, ha256, rfl, HNA, hb60, hr60⟩ := hrel
            have HB6 := hid hb60
            have HR6 := hid hr60
            clear hb60 hr60
            have haw : IntKind.i64.wrap ((a : Int) + 1) = (a : Int) + 1 := IntWalk.i64_in _ ⟨by omega, by omega⟩
            by_cases ha : a < 256
            · have haI : (a : Int) ≤ 255 := by omega
              have haN : a ≤ 255 := by omega
              have HNX : Hid ((may11 ⟨(k : Int), (a : Int)⟩ = true → ln11 ⟨(k : Int), (a : Int)⟩ ≠ b) → ∀ x, may11 x = true → x.op = k → x.a < ((a + 1 : Nat) : Int) → ln11 x ≠ b) := fun h x hm hx hxa => by
                by_cases e : x.a = a
                · obtain ⟨xo, xa⟩ := x
                  simp only at hx e
                  subst hx e
                  exact h hm
                · exact HNA.out x hm hx (by omega)
              go_upto_region 10 with fail
              obtain ⟨w61, hw⟩ : ∃ u, u = w60.alloc (.cells #[.int .i64 (k : Int), .int .i64 (a : Int)] 34) := ⟨_, rfl⟩
              have hb : Below w60.heap.size w60 w61 := by rw [hw]; exact below_alloc _ _
              have HK := hid (show Lies w61 w60.heap.size 34 #[.int .i64 (k : Int), .int .i64 (a : Int)] by rw [hw]; exact Lies.new _ _ _)
              have HB7 := hid (then_w HB6.out hb)
              have HR7 := hid (HR6.out.later hb)
              rw [← hw]
              clear hw hb
              obtain ⟨kb, hkb⟩ : ∃ n, n = w60.heap.size := ⟨_, rfl⟩
              rw [← hkb] at HK ⊢
              clear hkb
              have k0 := HK.out.cell 0
              have k1 := HK.out.cell 1
              simp only [List.getElem?_toArray, List.getElem?_cons_zero, List.getElem?_cons_succ] at k0 k1
              go_wp2_with fail
              refine (may_any11 ⟨(k : Int), (a : Int)⟩ _).mono ?_
              rintro e w62 ⟨rfl, hb⟩
              have HB8 := hid (then_w HB7.out hb)
              have HR8 := hid (HR7.out.later hb)
              have HK8 := hid (HK.out.later hb)
              clear hb k0 k1
              cases hm : may11 ⟨(k : Int), (a : Int)⟩
              · have HN := hid (HNX.out fun h => by rw [hm] at h; cases h)
                clear hm
                go_wp2_with fail
                go_roundw
                case rel => exact ⟨a + 1, by omega, by go_num, HN, HB8.out, HR8.out⟩
                case measure => simp only [intOf]; omega
              · have HM := hid hm
                clear hm
                have k0 := HK8.out.cell 0
                have k1 := HK8.out.cell 1
                simp only [List.getElem?_toArray, List.getElem?_cons_zero, List.getElem?_cons_succ] at k0 k1
                go_wp2_with fail
                refine (line_any11 ⟨(k : Int), (a : Int)⟩ HM.out _).mono ?_
                rintro e w63 ⟨rfl, hb⟩
                have HB9 := hid (then_w HB8.out hb)
                have HR9 := hid (HR8.out.later hb)
                have HK9 := hid (HK8.out.later hb)
                clear hb k0 k1
                by_cases he : ln11 ⟨(k : Int), (a : Int)⟩ = b
                · have HV := hid (rdv_yes11 HM.out he)
                  rw [he]
                  have k0 := HK9.out.cell 0
                  have k1 := HK9.out.cell 1
                  simp only [List.getElem?_toArray, List.getElem?_cons_zero, List.getElem?_cons_succ] at k0 k1
                  have r0 := HR9.out.cell 0
                  have r1 := HR9.out.cell 1
                  have f0 := HR9.out.frozen 0
                  have f1 := HR9.out.frozen 1
                  simp only [List.getElem?_toArray, List.getElem?_cons_zero, List.getElem?_cons_succ] at r0 r1
                  have HZ := hid ((HR9.out.set_ 0 (.int .i64 (k : Int))).set_ 1 (.int .i64 (a : Int)))
                  have HBZ := hid ((HB9.out.setCell (p := ⟨w.heap.size, 0, none⟩) (Nat.le_refl _) (.int .i64 (k : Int))).setCell (p := ⟨w.heap.size, 1, none⟩) (Nat.le_refl _) (.int .i64 (a : Int)))
                  clear he
                  go_wp2_with fail
                  generalize hWW : World.setCell _ _ _ = w64 at HZ HBZ ⊢
                  clear hWW
                  have q0 := HZ.out.cell 0
                  have q1 := HZ.out.cell 1
                  simp at q0 q1
                  refine bodyPost_ret (v := .tuple #[.agg #[.int .i64 (k : Int), .int .i64 (a : Int)], .bool true]) (by simp [results, Tryd.results34, go_sem, q0, q1]) rfl ?_
                  exact ⟨by rw [HV.out], HBZ.out⟩
                · have HN := hid (HNX.out fun _ => he)
                  obtain ⟨u, hu⟩ : ∃ u, u = ln11 ⟨(k : Int), (a : Int)⟩ := ⟨_, rfl⟩
                  rw [← hu] at he ⊢
                  have hs1 : ¬ str u = str b := fun e => he (by have := congrArg (fun s : ByteArray => s.data.toList) e; simpa [list_str] using this)
                  have hs2 : ¬ (str u).toList = (str b).toList := fun e => hs1 (txt_inj11 e)
                  have hs3 : ((str u).toList == (str b).toList) = false := beq_eq_false_iff_ne.2 hs2
                  clear he hu
                  go_wp2_with fail
                  go_roundw
                  case rel => exact ⟨a + 1, by omega, by go_num, HN, HB9.out, HR9.out⟩
                  case measure => simp only [intOf]; omega
            · have haI : ¬ (a : Int) ≤ 255 := by omega
              have haN : ¬ a ≤ 255 := by omega
              have HN := hid (HNW.out fun x hm hx => HNA.out x hm hx (by have := (may_parts11 hm).2.2.2; omega))
              go_wp2_with fail
              go_roundw
              case rel => exact ⟨k + 1, by omega, by go_num, HN, HB6.out, HR6.out⟩
              case measure => simp only [intOf]; omega
        · have HN := hid (HNW.out fun x hm hx e => h2 (HPRE.out x hx e).2)
          obtain ⟨u, hu⟩ : ∃ u, u = b.take W.length := ⟨_, rfl⟩
          rw [← hu] at sx h2
          have hs1 : ¬ str u = str W := fun e => h2 (by have := congrArg (fun s : ByteArray => s.data.toList) e; simpa [list_str] using this)
          have hs2 : ¬ (str u).toList = (str W).toList := fun e => hs1 (txt_inj11 e)
          have hs3 : ((str u).toList == (str W).toList) = false := beq_eq_false_iff_ne.2 hs2
          clear h2 hu
          go_wp2_with fail
          go_roundw
          case rel => exact ⟨k + 1, by omega, by go_num, HN, HB1.out, HR1.out⟩
          case measure => simp only [intOf]; omega
    · have hkI : ¬ (k : Int) ≤ 18 := by omega
      have hkN : ¬ k ≤ 18 := by omega
      have HV := hid (rdv_no11 (b := b) fun x hm => HNO.out x hm (by have := (may_parts11 hm).2.1; omega))
      have r0 := HR.out.cell 0
      have r1 := HR.out.cell 1
      have f0 := HR.out.frozen 0
      have f1 := HR.out.frozen 1
      simp only [List.getElem?_toArray, List.getElem?_cons_zero, List.getElem?_cons_succ] at r0 r1
      have HZ := hid ((HR.out.set_ 0 (.int .i64 0)).set_ 1 (.int .i64 0))
      have HBZ := hid ((HB.out.setCell (p := ⟨w.heap.size, 0, none⟩) (Nat.le_refl _) (.int .i64 0)).setCell (p := ⟨w.heap.size, 1, none⟩) (Nat.le_refl _) (.int .i64 0))
      go_wp2_with fail
      generalize hWW : World.setCell _ _ _ = w64 at HZ HBZ ⊢
      clear hWW
      have q0 := HZ.out.cell 0
      have q1 := HZ.out.cell 1
      simp at q0 q1
      refine bodyPost_ret (v := .tuple #[.agg #[.int .i64 0, .int .i64 0], .bool false]) (by simp [results, Tryd.results34, go_sem, q0, q1]) rfl ?_
      exact ⟨by rw [HV.out], HBZ.out⟩
end Go.Proofs.YtobelbaeaamkkaaDoor
