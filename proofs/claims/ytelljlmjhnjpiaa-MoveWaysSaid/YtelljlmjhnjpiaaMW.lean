/- mark's reach walked: what is met is what is reached. -/
import Derived.Test.YtelljlmjhnjpiaaMM
import Derived.Test.YtelljlmjhnjpiaaL
import Derived.Deep.OwnRows
namespace Go.Proofs.Ytelljlmjhnjpiaa
open Go.RowKit
set_option maxRecDepth 100000
theorem meet_any (h : Hp) (M : List Nat) (v : Int) (bm bi base : Nat) (A : Option Addr) (c g : Nat) (w : World) (hs : MeetS w base h.objs.length bm bi M A c g) (hv : hasB h.objs.length v = true) (hM : M.length ≤ 256) :
    Calls Try.prog 104 #[.int .i64 v, .pointer (some ⟨bi, 0, none⟩), .pointer (some ⟨bm, 0, none⟩)] w fun e w' => e = .returned (.tuple #[]) ∧
      ∃ A' c', MeetS w' base h.objs.length bm bi (meetL h M v) A' c' g ∧ Below base w w' ∧ Boxes w w' := by
  cases hr : refB h.objs.length v
  · have e : meetL h M v = M := by unfold meetL; rw [if_neg (by rw [hr]; simp)]
    have ha : atB v = false := by
      unfold hasB at hv
      rw [hr, Bool.or_false] at hv
      have h1 := nB_iff.1 hv
      cases ha : atB v
      · rfl
      · have := atB_iff.1 ha; omega
    rw [e]
    refine (meet_no v bm bi w ha).mono ?_
    rintro e w' ⟨rfl, rfl⟩
    exact ⟨rfl, A, c, hs, Below.refl _ _, Boxes.refl _⟩
  · obtain ⟨ha, h0, h1⟩ := refB_no hr
    obtain ⟨i, hi⟩ : ∃ i : Nat, atV v = i := ⟨(atV v).toNat, by omega⟩
    have e : meetL h M v = if i ∈ M then M else M ++ [i] := by
      unfold meetL
      rw [hi, Int.toNat_natCast]
      by_cases hm : i ∈ M <;> simp [hr, hm]
    rw [e]
    exact meet_yes h.objs.length i M v bm bi base A c g w hs ha hi (by omega) hM
theorem met256 {h : Hp} {rs : List Int} {M : List Nat} (m : Met h rs M) (hm : mayB h = true) : M.length ≤ 256 := by
  have h1 := m.len
  have h2 := may_len hm
  omega
/-- what reach gives back -/
def ReachOut (w : World) (h : Hp) (rs : List Int) (e : Ending) (w' : World) : Prop :=
  ∃ (M : List Nat) (A : Option Addr) (c : Nat), e = .returned (.slice A M.length c) ∧ w'.ownsRow w.heap.size 3 1 (.slice A M.length c) M.length (M.map intN) ∧ M.Nodup ∧ M.length ≤ 256 ∧ (∀ i, i ∈ M ↔ Reach h rs i) ∧ Below w.heap.size w w'
theorem made_marks (n : Nat) : (madeCells #[.bool false] n).toList = marksOf n [] := by
  rw [toList_madeCells_one]
  unfold marksOf
  simp [List.map_const']
theorem start_meets (u : World) (n : Nat) (hn : n ≤ 256) :
    MeetS (((u.alloc (.cells #[.slice none 0 0] 44)).alloc (.cells (madeCells #[.bool false] n) 4)).alloc (.cells #[.slice (some ⟨u.heap.size + 1, 0, none⟩) n n] 82)) u.heap.size n u.heap.size (u.heap.size + 1 + 1) [] none 0 (u.heap.size + 1) ∧
      Below u.heap.size u (((u.alloc (.cells #[.slice none 0 0] 44)).alloc (.cells (madeCells #[.bool false] n) 4)).alloc (.cells #[.slice (some ⟨u.heap.size + 1, 0, none⟩) n n] 82)) := by
  have k1 := ((Lies.new u 44 #[.slice none 0 0]).alloc (.cells (madeCells #[.bool false] n) 4)).alloc (.cells #[.slice (some ⟨u.heap.size + 1, 0, none⟩) n n] 82)
  have k3 := Lies.new ((u.alloc (.cells #[.slice none 0 0] 44)).alloc (.cells (madeCells #[.bool false] n) 4)) 82 #[.slice (some ⟨u.heap.size + 1, 0, none⟩) n n]
  have k2 := World.ownsRow_lit (base := u.heap.size) (e := 4) (size := 1) (u.alloc (.cells #[.slice none 0 0] 44)) (madeCells #[.bool false] n) n (by simp) (by unfold maxLen; omega) (by rw [size_madeCells, Nat.mul_one])
  rw [made_marks] at k2
  have k2 := k2.alloc (.cells #[.slice (some ⟨u.heap.size + 1, 0, none⟩) n n] 82)
  simp only [World.size_alloc] at k2 k3
  exact ⟨⟨k1, k3, World.ownsRow_nil _ _ _ _, k2, Nat.le_refl _, by omega⟩, ((below_alloc u _).alloc (by simp) _).alloc (by simp; omega) _⟩
theorem MeetS.later {w w' : World} {base n bm bi : Nat} {M : List Nat} {A : Option Addr} {c g : Nat} (h : MeetS w base n bm bi M A c g) (hb : Below w.heap.size w w') : MeetS w' base n bm bi M A c g :=
  ⟨h.mb.later hb, h.ib.later hb, own_later h.mrow hb, own_later h.irow hb, h.mlo, h.ilo⟩
theorem ob_vals {n : Nat} {o : Ob} (h : obB n o = true) : refB n o.cls = true ∧ ∀ v ∈ o.slots, hasB n v = true := by
  unfold obB at h
  simp only [Bool.and_eq_true] at h
  exact ⟨h.1.1.1, List.all_eq_true.1 h.2⟩
theorem ref_has {n : Nat} {v : Int} (h : refB n v = true) : hasB n v = true := by unfold hasB; rw [h, Bool.or_true]
set_option maxHeartbeats 2000000 in
theorem reach_any (h : Hp) (rs : List Int) (A R : Option Addr) (c d : Nat) (w : World) (hs : ObsR w A h.objs) (hr : IntsR w R rs) (hm : mayB h = true) (hl : rs.length ≤ 9223372036854775807) (hv : ∀ v ∈ rs, hasB h.objs.length v = true) :
    Calls Try.prog 90 #[.agg #[.slice A h.objs.length c, .int .i64 h.cap, .int .i64 h.last], .slice R rs.length d] w (ReachOut w h rs) := by
  have hle := may_len hm
  have hmk := run_make_row' (P := Try.prog) 82 4 (.bool false) 1 Try.underlying82 bool_info rfl .i64 .i64 h.objs.length (by omega) (by omega)
  have HS := hid hs
  have HR := hid hr
  have HM := hid hm
  have HV := hid hv
  clear hs hr hm hv
  have K1 := Lies.new w 24 #[Value.slice A h.objs.length c, Value.int .i64 h.cap, Value.int .i64 h.last]
  go_enter Try.func90, Try.ntmps90
  go_wp2
  go_loopw [21] (fun i wr => ∃ (k : Nat) (M : List Nat) (A1 : Option Addr) (c1 : Nat), k ≤ rs.length ∧ i = .int .i64 k ∧ MeetS wr (w.heap.size + 1) h.objs.length (w.heap.size + 1) (w.heap.size + 1 + 1 + 1) M A1 c1 (w.heap.size + 1 + 1) ∧ Met h rs M ∧ (∀ j v, j < k → rs[j]? = some v → MetV h M v) ∧ Lies wr w.heap.size 24 #[Value.slice A h.objs.length c, Value.int .i64 h.cap, Value.int .i64 h.last] ∧ Below w.heap.size w wr) (fun i _ => rs.length - (intOf i).toNat)
  case atStart =>
    obtain ⟨hst, hbl⟩ := start_meets (w.alloc (.cells #[Value.slice A h.objs.length c, Value.int .i64 h.cap, Value.int .i64 h.last] 24)) h.objs.length hle
    have hx := K1.below hbl (by simp)
    have hbl2 := (below_alloc w (.cells #[Value.slice A h.objs.length c, Value.int .i64 h.cap, Value.int .i64 h.last] 24)).trans (hbl.mono (by simp))
    simp only [World.size_alloc] at hst hx hbl2
    exact ⟨0, [], none, 0, Nat.zero_le _, rfl, hst, ⟨List.nodup_nil, fun i hi => by simp at hi⟩, fun j v hj => by omega, hx, hbl2⟩
  case round =>
    obtain ⟨k, M, A1, c1, hk, rfl, hM, hmet, hroots, hbox, hbw⟩ := hrel
    have HW := hid hbw
    have HBX := hid hbox
    by_cases hlt : k < rs.length
    · obtain ⟨bs, os, rfl, hbs, hcs⟩ := HR.out (by omega)
      have hcell : wr.cell? ⟨bs, os + k, none⟩ = some (.int .i64 rs[k]) := (hbw.cell (p := ⟨bs, os + k, none⟩) hbs).trans (hcs k _ (List.getElem?_eq_getElem hlt))
      have HK := hid (meet_any h M rs[k] (w.heap.size + 1) (w.heap.size + 1 + 1 + 1) (w.heap.size + 1) A1 c1 (w.heap.size + 1 + 1) wr hM (HV.out _ (List.getElem_mem hlt)) (met256 hmet HM.out))
      have HMET := hid hmet
      have HRT := hid hroots
      clear hM hmet hroots hcs hbw hbox
      go_wp2_with (first | (go_at_call 104; refine HK.out.mono ?_; rintro e w' ⟨rfl, A2, c2, hM2, hb2, hx2⟩))
      go_roundw
      case rel =>
        refine ⟨k + 1, _, A2, c2, by omega, by go_num, hM2, HMET.out.meet fun hrb => .root _ (List.getElem_mem hlt) hrb, fun j v hj hjv => ?_, hx2 _ _ _ (.inl rfl) HBX.out, HW.out.trans (hb2.mono (by omega))⟩
        by_cases hjk : j < k
        · exact (HRT.out j v hjk hjv).meet
        · obtain rfl : j = k := by omega
          rw [List.getElem?_eq_getElem hlt] at hjv
          obtain rfl : rs[j] = v := Option.some.inj hjv
          exact meetL_self
      case measure => simp [intOf]; omega
    · have hall : ∀ v ∈ rs, MetV h M v := fun v hv => by
        obtain ⟨j, hj, rfl⟩ := List.getElem_of_mem hv
        exact hroots j _ (by omega) (List.getElem?_eq_getElem hj)
      have HAL := hid hall
      clear hroots hall hbw hbox
      go_wp2
      go_loopw [10] (fun i wr => ∃ (k : Nat) (M : List Nat) (A1 : Option Addr) (c1 : Nat), k ≤ M.length ∧ i = .int .i64 k ∧ MeetS wr (w.heap.size + 1) h.objs.length (w.heap.size + 1) (w.heap.size + 1 + 1 + 1) M A1 c1 (w.heap.size + 1 + 1) ∧ Met h rs M ∧ (∀ v ∈ rs, MetV h M v) ∧ Done h M k ∧ Lies wr w.heap.size 24 #[Value.slice A h.objs.length c, Value.int .i64 h.cap, Value.int .i64 h.last] ∧ Below w.heap.size w wr) (fun i _ => h.objs.length - (intOf i).toNat)
      case atStart => exact ⟨0, M, A1, c1, Nat.zero_le _, rfl, hM, hmet, HAL.out, fun j i o hj => by omega, HBX.out, HW.out⟩
      case round =>
        clear hM hmet
        obtain ⟨k, M, A1, c1, hk, rfl, hM, hmet, hroots, hdone, hbox, hbw⟩ := hrel
        have HW := hid hbw
        have HBX := hid hbox
        have x0 := hbox.cell 0
        have m0 := hM.mb.cell 0
        simp only [List.getElem?_toArray, List.getElem?_cons_zero] at x0 m0
        by_cases hlt : k < M.length
        · obtain ⟨i, hi⟩ : ∃ i, i = M[k] := ⟨_, rfl⟩
          have hik : M[k]? = some i := by rw [hi]; exact List.getElem?_eq_getElem hlt
          have hin : i < h.objs.length := hmet.lt (by rw [hi]; exact List.getElem_mem hlt)
          obtain ⟨ga, ca, hva, hga, hgl⟩ := hM.mrow.form (by omega)
          simp only [Value.slice.injEq, true_and] at hva
          obtain ⟨rfl, rfl⟩ := hva
          have mk := hM.mrow.cellAt k (by omega)
          rw [List.getElem?_map, hik] at mk
          simp only [Option.map_some, intN] at mk
          obtain ⟨b, off, rfl, hb, hc⟩ := HS.out (by omega)
          have hoi := List.getElem?_eq_getElem hin
          obtain ⟨S, ds, hob, hin2, hsd, -⟩ := hc i _ hoi
          have hok := may_all HM.out _ (List.getElem_mem hin)
          obtain ⟨o, ho⟩ : ∃ o, o = h.objs[i] := ⟨_, rfl⟩
          rw [← ho] at hob hin2 hsd hok hoi
          have hol := (kind_len (ob_kind hok)).1
          obtain ⟨c0, c1', c2, c3, c4, c5⟩ := hob.below hb hbw
          have hall := (ob_vals hok)
          have HI := hid hin2
          have HME := hid hM
          have HMET := hid hmet
          have HRT := hid hroots
          have HDN := hid hdone
          have HOI := hid hoi
          have HIK := hid hik
          have HVA := hid hall
          have HKB := hid (Lies.new wr 46 #[.int .i64 o.cls, .int .i64 o.kind, .slice S o.slots.length ds, .string o.text, .int .i64 o.bits, .int .i64 o.hash])
          have l0 : w.heap.size < wr.heap.size := hbox.lt
          have l1 : w.heap.size + 1 < wr.heap.size := hM.mb.lt
          have l2 : b < wr.heap.size := Nat.lt_of_lt_of_le hb hbw.size
          clear hM hmet hroots hdone hc hob hin2 hbw hbox ho hoi hok hik hi hall
          go_wp2
          go_region
          obtain ⟨w1, hw1⟩ : ∃ w1, w1 = (wr.alloc (.cells #[.int .i64 o.cls, .int .i64 o.kind, .slice S o.slots.length ds, .string o.text, .int .i64 o.bits, .int .i64 o.hash] 46)).drew := ⟨_, rfl⟩
          rw [← hw1]
          have hB1 : Below wr.heap.size wr w1 := by rw [hw1]; exact (below_alloc wr _).drew
          have hO1 : Lies w1 wr.heap.size 46 #[.int .i64 o.cls, .int .i64 o.kind, .slice S o.slots.length ds, .string o.text, .int .i64 o.bits, .int .i64 o.hash] := by rw [hw1]; exact HKB.out.drew
          have hM1 : MeetS w1 (w.heap.size + 1) h.objs.length (w.heap.size + 1) (w.heap.size + 1 + 1 + 1) M (some ⟨ga, 0, none⟩) c1 (w.heap.size + 1 + 1) := HME.out.later hB1
          have HX1 := hid (HBX.out.later hB1)
          have HW1 := hid (HW.out.trans (hB1.mono HW.out.size))
          clear hw1 HKB x0 m0 mk c0 c1' c2 c3 c4 c5 l0 l1 l2 HME
          have HK1 := hid (meet_any h M o.cls (w.heap.size + 1) (w.heap.size + 1 + 1 + 1) (w.heap.size + 1) _ c1 (w.heap.size + 1 + 1) w1 hM1 (ref_has HVA.out.1) (met256 HMET.out HM.out))
          have HO1 := hid hO1
          have y0 := hO1.cell 0
          simp only [List.getElem?_toArray, List.getElem?_cons_zero] at y0
          clear hO1 hM1 hB1
          go_wp2_with fail
          refine HK1.out.mono ?_
          rintro e w2 ⟨rfl, A2, c2, hM2, hb2, hx2⟩
          have hO2 := hx2 _ _ _ (.inr rfl) HO1.out
          have y2 := hO2.cell 2
          simp only [List.getElem?_toArray, List.getElem?_cons_zero, List.getElem?_cons_succ] at y2
          have HO2 := hid hO2
          have HX2 := hid (hx2 _ _ _ (.inl rfl) HX1.out)
          have HW2 := hid (HW1.out.trans (hb2.mono (Nat.le_succ _)))
          have HM2 := hid hM2
          have hM2' : Met h rs (meetL h M o.cls) := HMET.out.meet fun hrb => .step i o _ (HMET.out.sound i (List.mem_of_getElem? HIK.out)) HOI.out (by simp) hrb
          have HMT2 := hid hM2'
          clear hM2 hb2 hx2 hO2 hM2' y0
          go_wp2_with fail
          go_loopw [50] (fun i' wr' => ∃ (j : Nat) (M' : List Nat) (A1 : Option Addr) (c1 : Nat), j ≤ o.slots.length ∧ i' = .int .i64 j ∧ MeetS wr' (w.heap.size + 1) h.objs.length (w.heap.size + 1) (w.heap.size + 1 + 1 + 1) M' A1 c1 (w.heap.size + 1 + 1) ∧ Met h rs M' ∧ (∀ v ∈ rs, MetV h M' v) ∧ Done h M' k ∧ M'[k]? = some i ∧ MetV h M' o.cls ∧ (∀ l v, l < j → o.slots[l]? = some v → MetV h M' v) ∧ Lies wr' w.heap.size 24 #[Value.slice (some ⟨b, off, none⟩) h.objs.length c, Value.int .i64 h.cap, Value.int .i64 h.last] ∧ Lies wr' wr.heap.size 46 #[.int .i64 o.cls, .int .i64 o.kind, .slice S o.slots.length ds, .string o.text, .int .i64 o.bits, .int .i64 o.hash] ∧ Below w.heap.size w wr') (fun i' _ => o.slots.length - (intOf i').toNat)
          case atStart =>
            refine ⟨0, _, A2, c2, Nat.zero_le _, rfl, HM2.out, HMT2.out, fun v hv => (HRT.out v hv).meet, HDN.out.meet (by omega) _, meetL_get HIK.out, meetL_self, fun l v hl => by omega, HX2.out, HO2.out, HW2.out⟩
          case round =>
            obtain ⟨j, M', A3, c3, hj, rfl, hM3, hmet3, hroots3, hdone3, hik3, hcls3, hsl3, hbox3, hob3, hbw3⟩ := hrel
            have HX3 := hid hbox3
            have HO3 := hid hob3
            have HW3 := hid hbw3
            by_cases hjl : j < o.slots.length
            · obtain ⟨bs, os, rfl, hbs, hcs⟩ := HI.out (by omega)
              have hcell : wr.cell? ⟨bs, os + j, none⟩ = some (.int .i64 o.slots[j]) := (hbw3.cell (p := ⟨bs, os + j, none⟩) hbs).trans (hcs j _ (List.getElem?_eq_getElem hjl))
              have HK3 := hid (meet_any h M' o.slots[j] (w.heap.size + 1) (w.heap.size + 1 + 1 + 1) (w.heap.size + 1) A3 c3 (w.heap.size + 1 + 1) wr hM3 (HVA.out.2 _ (List.getElem_mem hjl)) (met256 hmet3 HM.out))
              have HMET3 := hid hmet3
              have HRT3 := hid hroots3
              have HDN3 := hid hdone3
              have HIK3 := hid hik3
              have HCL3 := hid hcls3
              have HSL3 := hid hsl3
              clear hM3 hmet3 hroots3 hdone3 hik3 hcls3 hsl3 hcs hbox3 hob3 hbw3
              go_wp2_with fail
              refine HK3.out.mono ?_
              rintro e w4 ⟨rfl, A4, c4, hM4, hb4, hx4⟩
              have HM4 := hid hM4
              have HB4 := hid hb4
              have HX4 := hid hx4
              clear hM4 hb4 hx4
              go_wp2_with fail
              go_roundw
              case rel =>
                have hkl : k < M'.length := (List.getElem?_eq_some_iff.1 HIK3.out).1
                refine ⟨j + 1, _, A4, c4, by omega, by go_num, HM4.out, HMET3.out.meet fun hrb => .step i o _ (HMET3.out.sound i (List.mem_of_getElem? HIK3.out)) HOI.out (List.mem_cons_of_mem _ (List.getElem_mem hjl)) hrb, fun v hv => (HRT3.out v hv).meet, HDN3.out.meet (by omega) _, meetL_get HIK3.out, HCL3.out.meet, fun l v hl hlv => ?_, HX4.out _ _ _ (.inl rfl) HX3.out, HX4.out _ _ _ (.inr rfl) HO3.out, HW3.out.trans (HB4.out.mono (by omega))⟩
                by_cases hlj : l < j
                · exact (HSL3.out l v hlj hlv).meet
                · obtain rfl : l = j := by omega
                  rw [List.getElem?_eq_getElem hjl] at hlv
                  obtain rfl : o.slots[l] = v := Option.some.inj hlv
                  exact meetL_self
              case measure => simp [intOf]; omega
            · have hkl : k < M'.length := (List.getElem?_eq_some_iff.1 hik3).1
              have hd : Done h M' (k + 1) := fun q i' o' hq hqi ho' v hv => by
                by_cases hqk : q < k
                · exact hdone3 q i' o' hqk hqi ho' v hv
                · obtain rfl : q = k := by omega
                  rw [hik3] at hqi
                  obtain rfl : i = i' := Option.some.inj hqi
                  rw [HOI.out] at ho'
                  obtain rfl : o = o' := Option.some.inj ho'
                  rcases List.mem_cons.1 hv with rfl | hv
                  · exact hcls3
                  · obtain ⟨l, hl, rfl⟩ := List.getElem_of_mem hv
                    exact hsl3 l _ (by omega) (List.getElem?_eq_getElem hl)
              have HD := hid hd
              have HRT3 := hid hroots3
              have HMET3 := hid hmet3
              have HM3 := hid hM3
              have hlen := hmet3.len
              clear hM3 hmet3 hroots3 hdone3 hik3 hcls3 hsl3 hbox3 hob3 hbw3 hd
              go_wp2_with fail
              go_roundw
              case rel => exact ⟨k + 1, M', A3, c3, by omega, by go_num, HM3.out, HMET3.out, HRT3.out, HD.out, HX3.out, HW3.out⟩
              case measure => simp [intOf]; omega
        · have hkn : k = M.length := by omega
          have HME := hid hM
          have HMET := hid hmet
          have HALL := hid (met_all hmet hroots (by rw [← hkn]; exact hdone))
          clear hM hmet hroots hdone hbox hbw x0
          go_wp2_with fail
          go_ret
          exact ⟨M, A1, c1, rfl, own_lower HME.out.mrow (Nat.le_succ _), HMET.out.nodup, met256 HMET.out HM.out, HALL.out, HW.out⟩
end Go.Proofs.Ytelljlmjhnjpiaa
