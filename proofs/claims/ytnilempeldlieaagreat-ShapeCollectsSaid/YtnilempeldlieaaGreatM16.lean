/- mark's reach walked: what is met is what is reached. mark's small functions: isValue, the closure of Live, ContainsFunc over roots. mark's Live. move.Table and move.values walked. -/
import Derived.Test.YtnilempeldlieaaGreatM15
import Derived.Test.YtnilempeldlieaaGreatM04
import Derived.Deep.OwnRows
import Derived.Test.YtnilempeldlieaaGreatM11
import Derived.Laws.EntriesVeiled
import Derived.Test.YtnilempeldlieaaGreatZS
import Derived.Sort.OwnSortedInts
import Derived.Test.YtnilempeldlieaaGreatM09
namespace Go.Proofs.YtnilempeldlieaaGreat
open Go.RowKit
set_option maxRecDepth 100000
theorem meet_any (h : Hp) (M : List Nat) (v : Int) (bm bi base : Nat) (A : Option Addr) (c g : Nat) (w : World) (hs : MeetS w base h.objs.length bm bi M A c g) (hv : hasB h.objs.length v = true) (hM : M.length ≤ 256) :
    Calls Tryz.prog 201 #[.int .i64 v, .pointer (some ⟨bi, 0, none⟩), .pointer (some ⟨bm, 0, none⟩)] w fun e w' => e = .returned (.tuple #[]) ∧
      ∃ A' c', MeetS w' base h.objs.length bm bi (meetL h M v) A' c' g ∧ Below base w w' ∧ Boxes w w' := by
  cases hr : refB h.objs.length v
  · have e : meetL h M v = M := by unfold meetL; rw [if_neg (by rw [hr]; simp)]
    have ha : atB v = false := by
      unfold hasB at hv
      rw [hr, Bool.or_false] at hv
      have h1 := nB_iff.1 hv
      cases ha : atB v
      · rfl
      · have := atB_iff.1 ha; omega
    rw [e]
    refine (meet_no v bm bi w ha).mono ?_
    rintro e w' ⟨rfl, rfl⟩
    exact ⟨rfl, A, c, hs, Below.refl _ _, Boxes.refl _⟩
  · obtain ⟨ha, h0, h1⟩ := refB_no hr
    obtain ⟨i, hi⟩ : ∃ i : Nat, atV v = i := ⟨(atV v).toNat, by omega⟩
    have e : meetL h M v = if i ∈ M then M else M ++ [i] := by
      unfold meetL
      rw [hi, Int.toNat_natCast]
      by_cases hm : i ∈ M <;> simp [hr, hm]
    rw [e]
    exact meet_yes h.objs.length i M v bm bi base A c g w hs ha hi (by omega) hM
theorem met256 {h : Hp} {rs : List Int} {M : List Nat} (m : Met h rs M) (hm : mayB h = true) : M.length ≤ 256 := by
  have h1 := m.len
  have h2 := may_len hm
  omega
/-- what reach gives back -/
def ReachOut (w : World) (h : Hp) (rs : List Int) (e : Ending) (w' : World) : Prop :=
  ∃ (M : List Nat) (A : Option Addr) (c : Nat), e = .returned (.slice A M.length c) ∧ w'.ownsRow w.heap.size 3 1 (.slice A M.length c) M.length (M.map intN) ∧ M.Nodup ∧ M.length ≤ 256 ∧ (∀ i, i ∈ M ↔ Reach h rs i) ∧ Below w.heap.size w w'
theorem made_marks (n : Nat) : (madeCells #[.bool false] n).toList = marksOf n [] := by
  rw [toList_madeCells_one]
  unfold marksOf
  simp [List.map_const']
theorem start_meets (u : World) (n : Nat) (hn : n ≤ 256) :
    MeetS (((u.alloc (.cells #[.slice none 0 0] 34)).alloc (.cells (madeCells #[.bool false] n) 4)).alloc (.cells #[.slice (some ⟨u.heap.size + 1, 0, none⟩) n n] 55)) u.heap.size n u.heap.size (u.heap.size + 1 + 1) [] none 0 (u.heap.size + 1) ∧
      Below u.heap.size u (((u.alloc (.cells #[.slice none 0 0] 34)).alloc (.cells (madeCells #[.bool false] n) 4)).alloc (.cells #[.slice (some ⟨u.heap.size + 1, 0, none⟩) n n] 55)) := by
  have k1 := ((Lies.new u 34 #[.slice none 0 0]).alloc (.cells (madeCells #[.bool false] n) 4)).alloc (.cells #[.slice (some ⟨u.heap.size + 1, 0, none⟩) n n] 55)
  have k3 := Lies.new ((u.alloc (.cells #[.slice none 0 0] 34)).alloc (.cells (madeCells #[.bool false] n) 4)) 55 #[.slice (some ⟨u.heap.size + 1, 0, none⟩) n n]
  have k2 := World.ownsRow_lit (base := u.heap.size) (e := 4) (size := 1) (u.alloc (.cells #[.slice none 0 0] 34)) (madeCells #[.bool false] n) n (by simp) (by unfold maxLen; omega) (by rw [size_madeCells, Nat.mul_one])
  rw [made_marks] at k2
  have k2 := k2.alloc (.cells #[.slice (some ⟨u.heap.size + 1, 0, none⟩) n n] 55)
  simp only [World.size_alloc] at k2 k3
  exact ⟨⟨k1, k3, World.ownsRow_nil _ _ _ _, k2, Nat.le_refl _, by omega⟩, ((below_alloc u _).alloc (by simp) _).alloc (by simp; omega) _⟩
theorem MeetS.later {w w' : World} {base n bm bi : Nat} {M : List Nat} {A : Option Addr} {c g : Nat} (h : MeetS w base n bm bi M A c g) (hb : Below w.heap.size w w') : MeetS w' base n bm bi M A c g :=
  ⟨h.mb.later hb, h.ib.later hb, own_later h.mrow hb, own_later h.irow hb, h.mlo, h.ilo⟩
set_option maxHeartbeats 2000000 in
theorem reach_any (h : Hp) (rs : List Int) (A R : Option Addr) (c d : Nat) (w : World) (hs : ObsR w A h.objs) (hr : IntsR w R rs) (hm : mayB h = true) (hl : rs.length ≤ 9223372036854775807) (hv : ∀ v ∈ rs, hasB h.objs.length v = true) :
    Calls Tryz.prog 161 #[.agg #[.slice A h.objs.length c, .int .i64 h.cap, .int .i64 h.last], .slice R rs.length d] w (ReachOut w h rs) := by
  have hle := may_len hm
  have hmk := run_make_row' (P := Tryz.prog) 55 4 (.bool false) 1 Tryz.underlying55 bool_info rfl .i64 .i64 h.objs.length (by omega) (by omega)
  have HS := hid hs
  have HR := hid hr
  have HM := hid hm
  have HV := hid hv
  clear hs hr hm hv
  have K1 := Lies.new w 24 #[Value.slice A h.objs.length c, Value.int .i64 h.cap, Value.int .i64 h.last]
  go_enter Tryz.func161, Tryz.ntmps161
  go_wp2
  go_loopw [21] (fun i wr => ∃ (k : Nat) (M : List Nat) (A1 : Option Addr) (c1 : Nat), k ≤ rs.length ∧ i = .int .i64 k ∧ MeetS wr (w.heap.size + 1) h.objs.length (w.heap.size + 1) (w.heap.size + 1 + 1 + 1) M A1 c1 (w.heap.size + 1 + 1) ∧ Met h rs M ∧ (∀ j v, j < k → rs[j]? = some v → MetV h M v) ∧ Lies wr w.heap.size 24 #[Value.slice A h.objs.length c, Value.int .i64 h.cap, Value.int .i64 h.last] ∧ Below w.heap.size w wr) (fun i _ => rs.length - (intOf i).toNat)
  case atStart =>
    obtain ⟨hst, hbl⟩ := start_meets (w.alloc (.cells #[Value.slice A h.objs.length c, Value.int .i64 h.cap, Value.int .i64 h.last] 24)) h.objs.length hle
    have hx := K1.below hbl (by simp)
    have hbl2 := (below_alloc w (.cells #[Value.slice A h.objs.length c, Value.int .i64 h.cap, Value.int .i64 h.last] 24)).trans (hbl.mono (by simp))
    simp only [World.size_alloc] at hst hx hbl2
    exact ⟨0, [], none, 0, Nat.zero_le _, rfl, hst, ⟨List.nodup_nil, fun i hi => by simp at hi⟩, fun j v hj => by omega, hx, hbl2⟩
  case round =>
    obtain ⟨k, M, A1, c1, hk, rfl, hM, hmet, hroots, hbox, hbw⟩ := hrel
    have HW := hid hbw
    have HBX := hid hbox
    by_cases hlt : k < rs.length
    · obtain ⟨bs, os, rfl, hbs, hcs⟩ := HR.out (by omega)
      have hcell : wr.cell? ⟨bs, os + k, none⟩ = some (.int .i64 rs[k]) := (hbw.cell (p := ⟨bs, os + k, none⟩) hbs).trans (hcs k _ (List.getElem?_eq_getElem hlt))
      have HK := hid (meet_any h M rs[k] (w.heap.size + 1) (w.heap.size + 1 + 1 + 1) (w.heap.size + 1) A1 c1 (w.heap.size + 1 + 1) wr hM (HV.out _ (List.getElem_mem hlt)) (met256 hmet HM.out))
      have HMET := hid hmet
      have HRT := hid hroots
      clear hM hmet hroots hcs hbw hbox
      go_wp2_with (first | (go_at_call 201; refine HK.out.mono ?_; rintro e w' ⟨rfl, A2, c2, hM2, hb2, hx2⟩))
      go_roundw
      case rel =>
        refine ⟨k + 1, _, A2, c2, by omega, by go_num, hM2, HMET.out.meet fun hrb => .root _ (List.getElem_mem hlt) hrb, fun j v hj hjv => ?_, hx2 _ _ _ (.inl rfl) HBX.out, HW.out.trans (hb2.mono (by omega))⟩
        by_cases hjk : j < k
        · exact (HRT.out j v hjk hjv).meet
        · obtain rfl : j = k := by omega
          rw [List.getElem?_eq_getElem hlt] at hjv
          obtain rfl : rs[j] = v := Option.some.inj hjv
          exact meetL_self
      case measure => simp [intOf]; omega
    · have hall : ∀ v ∈ rs, MetV h M v := fun v hv => by
        obtain ⟨j, hj, rfl⟩ := List.getElem_of_mem hv
        exact hroots j _ (by omega) (List.getElem?_eq_getElem hj)
      have HAL := hid hall
      clear hroots hall hbw hbox
      go_wp2
      go_loopw [10] (fun i wr => ∃ (k : Nat) (M : List Nat) (A1 : Option Addr) (c1 : Nat), k ≤ M.length ∧ i = .int .i64 k ∧ MeetS wr (w.heap.size + 1) h.objs.length (w.heap.size + 1) (w.heap.size + 1 + 1 + 1) M A1 c1 (w.heap.size + 1 + 1) ∧ Met h rs M ∧ (∀ v ∈ rs, MetV h M v) ∧ Done h M k ∧ Lies wr w.heap.size 24 #[Value.slice A h.objs.length c, Value.int .i64 h.cap, Value.int .i64 h.last] ∧ Below w.heap.size w wr) (fun i _ => h.objs.length - (intOf i).toNat)
      case atStart => exact ⟨0, M, A1, c1, Nat.zero_le _, rfl, hM, hmet, HAL.out, fun j i o hj => by omega, HBX.out, HW.out⟩
      case round =>
        clear hM hmet
        obtain ⟨k, M, A1, c1, hk, rfl, hM, hmet, hroots, hdone, hbox, hbw⟩ := hrel
        have HW := hid hbw
        have HBX := hid hbox
        have x0 := hbox.cell 0
        have m0 := hM.mb.cell 0
        simp only [List.getElem?_toArray, List.getElem?_cons_zero] at x0 m0
        by_cases hlt : k < M.length
        · obtain ⟨i, hi⟩ : ∃ i, i = M[k] := ⟨_, rfl⟩
          have hik : M[k]? = some i := by rw [hi]; exact List.getElem?_eq_getElem hlt
          have hin : i < h.objs.length := hmet.lt (by rw [hi]; exact List.getElem_mem hlt)
          obtain ⟨ga, ca, hva, hga, hgl⟩ := hM.mrow.form (by omega)
          simp only [Value.slice.injEq, true_and] at hva
          obtain ⟨rfl, rfl⟩ := hva
          have mk := hM.mrow.cellAt k (by omega)
          rw [List.getElem?_map, hik] at mk
          simp only [Option.map_some, intN] at mk
          obtain ⟨b, off, rfl, hb, hc⟩ := HS.out (by omega)
          have hoi := List.getElem?_eq_getElem hin
          obtain ⟨S, ds, hob, hin2, hsd, -⟩ := hc i _ hoi
          have hok := may_all HM.out _ (List.getElem_mem hin)
          obtain ⟨o, ho⟩ : ∃ o, o = h.objs[i] := ⟨_, rfl⟩
          rw [← ho] at hob hin2 hsd hok hoi
          have hol := (kind_len (ob_kind hok)).1
          obtain ⟨c0, c1', c2, c3, c4, c5⟩ := hob.below hb hbw
          have hall := (ob_vals hok)
          have HI := hid hin2
          have HME := hid hM
          have HMET := hid hmet
          have HRT := hid hroots
          have HDN := hid hdone
          have HOI := hid hoi
          have HIK := hid hik
          have HVA := hid hall
          have HKB := hid (Lies.new wr 41 #[.int .i64 o.cls, .int .i64 o.kind, .slice S o.slots.length ds, .string o.text, .int .i64 o.bits, .int .i64 o.hash])
          have l0 : w.heap.size < wr.heap.size := hbox.lt
          have l1 : w.heap.size + 1 < wr.heap.size := hM.mb.lt
          have l2 : b < wr.heap.size := Nat.lt_of_lt_of_le hb hbw.size
          clear hM hmet hroots hdone hc hob hin2 hbw hbox ho hoi hok hik hi hall
          go_wp2
          go_region
          obtain ⟨w1, hw1⟩ : ∃ w1, w1 = (wr.alloc (.cells #[.int .i64 o.cls, .int .i64 o.kind, .slice S o.slots.length ds, .string o.text, .int .i64 o.bits, .int .i64 o.hash] 41)).drew := ⟨_, rfl⟩
          rw [← hw1]
          have hB1 : Below wr.heap.size wr w1 := by rw [hw1]; exact (below_alloc wr _).drew
          have hO1 : Lies w1 wr.heap.size 41 #[.int .i64 o.cls, .int .i64 o.kind, .slice S o.slots.length ds, .string o.text, .int .i64 o.bits, .int .i64 o.hash] := by rw [hw1]; exact HKB.out.drew
          have hM1 : MeetS w1 (w.heap.size + 1) h.objs.length (w.heap.size + 1) (w.heap.size + 1 + 1 + 1) M (some ⟨ga, 0, none⟩) c1 (w.heap.size + 1 + 1) := HME.out.later hB1
          have HX1 := hid (HBX.out.later hB1)
          have HW1 := hid (HW.out.trans (hB1.mono HW.out.size))
          clear hw1 HKB x0 m0 mk c0 c1' c2 c3 c4 c5 l0 l1 l2 HME
          have HK1 := hid (meet_any h M o.cls (w.heap.size + 1) (w.heap.size + 1 + 1 + 1) (w.heap.size + 1) _ c1 (w.heap.size + 1 + 1) w1 hM1 (ref_has HVA.out.1) (met256 HMET.out HM.out))
          have HO1 := hid hO1
          have y0 := hO1.cell 0
          simp only [List.getElem?_toArray, List.getElem?_cons_zero] at y0
          clear hO1 hM1 hB1
          go_wp2_with fail
          refine HK1.out.mono ?_
          rintro e w2 ⟨rfl, A2, c2, hM2, hb2, hx2⟩
          have hO2 := hx2 _ _ _ (.inr rfl) HO1.out
          have y2 := hO2.cell 2
          simp only [List.getElem?_toArray, List.getElem?_cons_zero, List.getElem?_cons_succ] at y2
          have HO2 := hid hO2
          have HX2 := hid (hx2 _ _ _ (.inl rfl) HX1.out)
          have HW2 := hid (HW1.out.trans (hb2.mono (Nat.le_succ _)))
          have HM2 := hid hM2
          have hM2' : Met h rs (meetL h M o.cls) := HMET.out.meet fun hrb => .step i o _ (HMET.out.sound i (List.mem_of_getElem? HIK.out)) HOI.out (by simp) hrb
          have HMT2 := hid hM2'
          clear hM2 hb2 hx2 hO2 hM2' y0
          go_wp2_with fail
          go_loopw [50] (fun i' wr' => ∃ (j : Nat) (M' : List Nat) (A1 : Option Addr) (c1 : Nat), j ≤ o.slots.length ∧ i' = .int .i64 j ∧ MeetS wr' (w.heap.size + 1) h.objs.length (w.heap.size + 1) (w.heap.size + 1 + 1 + 1) M' A1 c1 (w.heap.size + 1 + 1) ∧ Met h rs M' ∧ (∀ v ∈ rs, MetV h M' v) ∧ Done h M' k ∧ M'[k]? = some i ∧ MetV h M' o.cls ∧ (∀ l v, l < j → o.slots[l]? = some v → MetV h M' v) ∧ Lies wr' w.heap.size 24 #[Value.slice (some ⟨b, off, none⟩) h.objs.length c, Value.int .i64 h.cap, Value.int .i64 h.last] ∧ Lies wr' wr.heap.size 41 #[.int .i64 o.cls, .int .i64 o.kind, .slice S o.slots.length ds, .string o.text, .int .i64 o.bits, .int .i64 o.hash] ∧ Below w.heap.size w wr') (fun i' _ => o.slots.length - (intOf i').toNat)
          case atStart =>
            refine ⟨0, _, A2, c2, Nat.zero_le _, rfl, HM2.out, HMT2.out, fun v hv => (HRT.out v hv).meet, HDN.out.meet (by omega) _, meetL_get HIK.out, meetL_self, fun l v hl => by omega, HX2.out, HO2.out, HW2.out⟩
          case round =>
            obtain ⟨j, M', A3, c3, hj, rfl, hM3, hmet3, hroots3, hdone3, hik3, hcls3, hsl3, hbox3, hob3, hbw3⟩ := hrel
            have HX3 := hid hbox3
            have HO3 := hid hob3
            have HW3 := hid hbw3
            by_cases hjl : j < o.slots.length
            · obtain ⟨bs, os, rfl, hbs, hcs⟩ := HI.out (by omega)
              have hcell : wr.cell? ⟨bs, os + j, none⟩ = some (.int .i64 o.slots[j]) := (hbw3.cell (p := ⟨bs, os + j, none⟩) hbs).trans (hcs j _ (List.getElem?_eq_getElem hjl))
              have HK3 := hid (meet_any h M' o.slots[j] (w.heap.size + 1) (w.heap.size + 1 + 1 + 1) (w.heap.size + 1) A3 c3 (w.heap.size + 1 + 1) wr hM3 (HVA.out.2 _ (List.getElem_mem hjl)) (met256 hmet3 HM.out))
              have HMET3 := hid hmet3
              have HRT3 := hid hroots3
              have HDN3 := hid hdone3
              have HIK3 := hid hik3
              have HCL3 := hid hcls3
              have HSL3 := hid hsl3
              clear hM3 hmet3 hroots3 hdone3 hik3 hcls3 hsl3 hcs hbox3 hob3 hbw3
              go_wp2_with fail
              refine HK3.out.mono ?_
              rintro e w4 ⟨rfl, A4, c4, hM4, hb4, hx4⟩
              have HM4 := hid hM4
              have HB4 := hid hb4
              have HX4 := hid hx4
              clear hM4 hb4 hx4
              go_wp2_with fail
              go_roundw
              case rel =>
                have hkl : k < M'.length := (List.getElem?_eq_some_iff.1 HIK3.out).1
                refine ⟨j + 1, _, A4, c4, by omega, by go_num, HM4.out, HMET3.out.meet fun hrb => .step i o _ (HMET3.out.sound i (List.mem_of_getElem? HIK3.out)) HOI.out (List.mem_cons_of_mem _ (List.getElem_mem hjl)) hrb, fun v hv => (HRT3.out v hv).meet, HDN3.out.meet (by omega) _, meetL_get HIK3.out, HCL3.out.meet, fun l v hl hlv => ?_, HX4.out _ _ _ (.inl rfl) HX3.out, HX4.out _ _ _ (.inr rfl) HO3.out, HW3.out.trans (HB4.out.mono (by omega))⟩
                by_cases hlj : l < j
                · exact (HSL3.out l v hlj hlv).meet
                · obtain rfl : l = j := by omega
                  rw [List.getElem?_eq_getElem hjl] at hlv
                  obtain rfl : o.slots[l] = v := Option.some.inj hlv
                  exact meetL_self
              case measure => simp [intOf]; omega
            · have hkl : k < M'.length := (List.getElem?_eq_some_iff.1 hik3).1
              have hd : Done h M' (k + 1) := fun q i' o' hq hqi ho' v hv => by
                by_cases hqk : q < k
                · exact hdone3 q i' o' hqk hqi ho' v hv
                · obtain rfl : q = k := by omega
                  rw [hik3] at hqi
                  obtain rfl : i = i' := Option.some.inj hqi
                  rw [HOI.out] at ho'
                  obtain rfl : o = o' := Option.some.inj ho'
                  rcases List.mem_cons.1 hv with rfl | hv
                  · exact hcls3
                  · obtain ⟨l, hl, rfl⟩ := List.getElem_of_mem hv
                    exact hsl3 l _ (by omega) (List.getElem?_eq_getElem hl)
              have HD := hid hd
              have HRT3 := hid hroots3
              have HMET3 := hid hmet3
              have HM3 := hid hM3
              have hlen := hmet3.len
              clear hM3 hmet3 hroots3 hdone3 hik3 hcls3 hsl3 hbox3 hob3 hbw3 hd
              go_wp2_with fail
              go_roundw
              case rel => exact ⟨k + 1, M', A3, c3, by omega, by go_num, HM3.out, HMET3.out, HRT3.out, HD.out, HX3.out, HW3.out⟩
              case measure => simp [intOf]; omega
        · have hkn : k = M.length := by omega
          have HME := hid hM
          have HMET := hid hmet
          have HALL := hid (met_all hmet hroots (by rw [← hkn]; exact hdone))
          clear hM hmet hroots hdone hbox hbw x0
          go_wp2_with fail
          go_ret
          exact ⟨M, A1, c1, rfl, own_lower HME.out.mrow (Nat.le_succ _), HMET.out.nodup, met256 HMET.out HM.out, HALL.out, HW.out⟩
end Go.Proofs.YtnilempeldlieaaGreat
namespace Go.Proofs.YtnilempeldlieaaGreat
open Go.RowKit
set_option maxRecDepth 100000
theorem misval_any (h : Hp) (v : Int) (A : Option Addr) (c : Nat) (w : World) :
    Calls Tryz.prog 160 #[.agg #[.slice A h.objs.length c, .int .i64 h.cap, .int .i64 h.last], .int .i64 v] w fun e w' => e = .returned (.bool (hasB h.objs.length v)) ∧ Below w.heap.size w w' := by
  have HB := hid (below_alloc w (.cells #[Value.slice A h.objs.length c, Value.int .i64 h.cap, Value.int .i64 h.last] 24))
  cases ha : atB v
  · have e2 : hasB h.objs.length v = nB v := by simp [hasB, refB, ha]
    rw [e2]; clear e2
    go_enter Tryz.func160, Tryz.ntmps160
    go_wp2_with (first | (go_at_call 110; refine (at_any _ _).mono ?_; rintro e w' ⟨rfl, rfl⟩) | (go_at_call 115; refine (vmay_any _ _).mono ?_; rintro e w' ⟨rfl, rfl⟩))
    go_ret
    refine ⟨?_, HB.out⟩
    refine congrArg (fun x => Ending.returned (Value.bool x)) ?_
    simp
  · have hn : nB v = false := by
      cases hn : nB v
      · rfl
      · have := nB_iff.1 hn; have := atB_iff.1 ha; omega
    have e2 : hasB h.objs.length v = decide (atV v < (h.objs.length : Int)) := by simp [hasB, refB, ha, hn]
    rw [e2]; clear e2
    go_enter Tryz.func160, Tryz.ntmps160
    go_wp2_with (first | (go_at_call 110; refine (at_any _ _).mono ?_; rintro e w' ⟨rfl, rfl⟩) | (go_at_call 115; refine (vmay_any _ _).mono ?_; rintro e w' ⟨rfl, rfl⟩))
    go_ret
    exact ⟨rfl, HB.out⟩
theorem live1_any (h : Hp) (x : Int) (A : Option Addr) (c b : Nat) (w : World) (hb : BoxH w b h A c) :
    Calls Tryz.prog 159 #[.int .i64 x, .pointer (some ⟨b, 0, none⟩)] w fun e w' => e = .returned (.bool (!hasB h.objs.length x)) ∧ Below w.heap.size w w' := by
  obtain ⟨h0, h1, h2⟩ := hb
  go_enter Tryz.func159, Tryz.ntmps159
  go_wp2_with (first | (go_at_call 160; refine (misval_any h _ A c _).mono ?_; rintro e w' ⟨rfl, hb⟩))
  go_ret
  exact ⟨rfl, hb⟩
theorem idxr_any (h : Hp) (A : Option Addr) (c b : Nat) (S : Option Addr) (xs : List Int) (d : Nat) (w : World) (hb : BoxH w b h A c) (hlt : b < w.heap.size) (hs : IntsR w S xs) (hl : xs.length ≤ 9223372036854775807) :
    Calls Tryz.prog 116 #[.slice S xs.length d, .func (.func 159) #[] #[.pointer (some ⟨b, 0, none⟩)]] w fun e w' => ∃ n : Int, e = .returned (.int .i64 n) ∧ (n < 0 ↔ xs.all (hasB h.objs.length) = true) ∧ Below w.heap.size w w' := by
  go_enter Tryz.func116, Tryz.ntmps116
  go_wp2
  go_loopw [8] (fun i wr => ∃ k : Nat, k ≤ xs.length ∧ i = .int .i64 k ∧ (xs.take k).all (hasB h.objs.length) = true ∧ Below w.heap.size w wr) (fun i _ => xs.length - (intOf i).toNat)
  case atStart => exact ⟨0, Nat.zero_le _, rfl, rfl, Below.refl _ _⟩
  case round =>
    obtain ⟨k, hk, rfl, hall, hbw⟩ := hrel
    by_cases hlt2 : k < xs.length
    · obtain ⟨bs, os, rfl, hbs, hcs⟩ := hs (by omega)
      have hcell : wr.cell? ⟨bs, os + k, none⟩ = some (.int .i64 xs[k]) := (hbw.cell (p := ⟨bs, os + k, none⟩) hbs).trans (hcs k _ (List.getElem?_eq_getElem hlt2))
      have hbr := hid (hb.below hlt hbw)
      have htk : (xs.take (k + 1)).all (hasB h.objs.length) = ((xs.take k).all (hasB h.objs.length) && hasB h.objs.length xs[k]) := by
        rw [List.take_succ_eq_append_getElem hlt2, List.all_append]; simp
      have HT := hid htk
      have HA := hid hall
      have HW := hid hbw
      have HS := hid hs
      clear htk hall hbw hcs hb hs
      cases hv : hasB h.objs.length xs[k]
      · go_wp2_with (first | (go_at_call 159; refine (live1_any h _ A c b _ hbr.out).mono ?_; rintro e w' ⟨rfl, hb⟩))
        go_ret
        refine ⟨k, rfl, ?_, HW.out.trans (hb.mono HW.out.size)⟩
        constructor
        · intro hh; omega
        · intro hh
          have := List.all_eq_true.1 hh xs[k] (List.getElem_mem hlt2)
          rw [hv] at this; cases this
      · go_wp2_with (first | (go_at_call 159; refine (live1_any h _ A c b _ hbr.out).mono ?_; rintro e w' ⟨rfl, hb⟩))
        go_roundw
        case rel => exact ⟨k + 1, by omega, by go_num, by rw [HT.out, HA.out, hv]; rfl, HW.out.trans (hb.mono HW.out.size)⟩
        case measure => simp [intOf]; omega
    · have e : k = xs.length := by omega
      subst e
      have HA := hid hall
      have HW := hid hbw
      clear hall hbw
      go_wp2
      go_ret
      refine ⟨-1, rfl, ⟨fun _ => ?_, fun _ => by omega⟩, HW.out⟩
      have := HA.out
      rwa [List.take_length] at this
theorem conr_any (h : Hp) (A : Option Addr) (c b : Nat) (S : Option Addr) (xs : List Int) (d : Nat) (w : World) (hb : BoxH w b h A c) (hlt : b < w.heap.size) (hs : IntsR w S xs) (hl : xs.length ≤ 9223372036854775807) :
    Calls Tryz.prog 70 #[.slice S xs.length d, .func (.func 159) #[] #[.pointer (some ⟨b, 0, none⟩)]] w fun e w' => e = .returned (.bool (!xs.all (hasB h.objs.length))) ∧ Below w.heap.size w w' := by
  have K := hid (idxr_any h A c b S xs d w hb hlt hs hl)
  clear hs hl hlt hb
  go_enter Tryz.func70, Tryz.ntmps70
  go_wp2_with fail
  refine K.out.mono ?_
  rintro e w' ⟨n, rfl, hn, hb⟩
  have e2 : (!xs.all (hasB h.objs.length)) = decide (0 ≤ n) := by
    cases hx : xs.all (hasB h.objs.length) <;> rw [hx] at hn <;> simp at hn ⊢ <;> omega
  have E2 := hid e2
  clear hn e2 K
  go_wp2
  go_ret
  exact ⟨by rw [E2.out]; rfl, hb⟩

end Go.Proofs.YtnilempeldlieaaGreat
namespace Go.Proofs.YtnilempeldlieaaGreat
open Go.RowKit Go.Sort
set_option maxRecDepth 100000
theorem sort_row (M : List Nat) (A : Option Addr) (c base : Nat) (w : World) (h : w.ownsRow base 3 1 (.slice A M.length c) M.length (M.map intN)) (hb : base ≤ w.heap.size) (hl : M.length ≤ 256) :
    Calls Tryz.prog 162 #[.slice A M.length c] w fun e w' => e = .returned (.tuple #[]) ∧ w'.ownsRow base 3 1 (.slice A M.length c) M.length (((M.map Int.ofNat).mergeSort fun x y => decide (x ≤ y)).map (Value.int .i64)) ∧ Below base w w' := by
  by_cases h0 : M.length = 0
  · obtain rfl : M = [] := List.length_eq_zero_iff.1 h0
    refine (Tryz.slices_Sort_int_none A c w).mono ?_
    rintro e w' ⟨rfl, rfl⟩
    exact ⟨rfl, by simpa using h, Below.refl _ _⟩
  · rcases h.2 with ⟨-, hn⟩ | ⟨g, cap, cur, hv, hbase, hblk, h1, h2, h3, h4⟩
    · exact absurd hn h0
    · simp only [Value.slice.injEq, true_and] at hv
      obtain ⟨rfl, rfl⟩ := hv
      have hm : M.map intN = (M.map Int.ofNat).map (Value.int .i64) := by rw [List.map_map]; rfl
      have hlm : (M.map Int.ofNat).length = M.length := by simp
      have := (Tryz.slices_Sort_int g 0 c (M.map Int.ofNat) w (holds_of_blockI hblk (by rw [hlm, ← hm, ← h4, Nat.mul_one])) (Array.getElem?_eq_some_iff.1 hblk).1 (by omega))
      rw [hlm] at this
      refine this.mono ?_
      rintro e w' ⟨rfl, n, os, rfl⟩
      refine ⟨rfl, ?_, (Below.refl _ _).grown (grownBy_sortedI _) hb (fun k hk => by cases hk; exact hbase)⟩
      have := ownsRow_sortedI (n := n) (os := os) (ts := (M.map Int.ofNat).mergeSort fun x y => decide (x ≤ y)) (ss := M.map Int.ofNat) (by simp) hbase hblk (by omega) h2 h3
      rwa [hlm] at this
theorem live_any (h : Hp) (rs : List Int) (A R : Option Addr) (c d : Nat) (w : World) (hs : ObsR w A h.objs) (fit : h.Fit) (hr : IntsR w R rs) (hl : rs.length ≤ 9223372036854775807) :
    Calls Tryz.prog 96 #[.agg #[.slice A h.objs.length c, .int .i64 h.cap, .int .i64 h.last], .slice R rs.length d] w (IntsTwo w (liL h rs) (liE h rs)) := by
  have HB0 := hid (below_alloc w (.cells #[Value.slice A h.objs.length c, Value.int .i64 h.cap, Value.int .i64 h.last] 24))
  have HX := hid (BoxH.new w h A c)
  have hw0 : w.heap.size < (w.alloc (.cells #[Value.slice A h.objs.length c, Value.int .i64 h.cap, Value.int .i64 h.last] 24)).heap.size := by simp
  have HS := hid hs
  have HF := hid fit
  have HR := hid hr
  clear hs fit hr
  cases hm : mayB h
  · have e1 : liE h rs = 1 := by unfold liE; rw [hm]; rfl
    have e2 : liL h rs = [] := by unfold liL; rw [e1]; rfl
    rw [e1, e2]; clear e1 e2
    go_enter Tryz.func96, Tryz.ntmps96
    go_wp2_with fail
    refine (may_any h A c _ (HS.out.below HB0.out) HF.out).mono ?_
    rintro e w1 ⟨rfl, hb1⟩
    have HB1 := hid (HB0.out.trans (hb1.mono (by simp)))
    clear hb1
    rw [hm]
    go_wp2_with fail
    go_ret2
    exact ⟨none, 0, rfl, fun hn => by simp at hn, fun _ => rfl, Nat.le_refl _, HB1.out⟩
  · have HM := hid hm
    cases hv : rs.all (hasB h.objs.length)
    · have e1 : liE h rs = 31 := by unfold liE; rw [hm, hv]; rfl
      have e2 : liL h rs = [] := by unfold liL; rw [e1]; rfl
      rw [e1, e2]; clear e1 e2
      go_enter Tryz.func96, Tryz.ntmps96
      go_wp2_with fail
      refine (may_any h A c _ (HS.out.below HB0.out) HF.out).mono ?_
      rintro e w1 ⟨rfl, hb1⟩
      have HB1 := hid (HB0.out.trans (hb1.mono (by simp)))
      have HX1 := hid (HX.out.later hb1)
      have hl1 : w.heap.size < w1.heap.size := Nat.lt_of_lt_of_le hw0 hb1.size
      clear hb1
      rw [hm]
      go_wp2_with fail
      refine (conr_any h A c w.heap.size R rs d _ HX1.out hl1 (HR.out.below HB1.out) hl).mono ?_
      rintro e w2 ⟨rfl, hb2⟩
      have HB2 := hid (HB1.out.trans (hb2.mono HB1.out.size))
      clear hb2
      rw [hv]
      go_wp2_with fail
      go_ret2
      exact ⟨none, 0, rfl, fun hn => by simp at hn, fun _ => rfl, Nat.le_refl _, HB2.out⟩
    · have e1 : liE h rs = 0 := by unfold liE; rw [hm, hv]; rfl
      have e2 : liL h rs = liveL h rs := by unfold liL; rw [e1]; rfl
      rw [e1, e2]; clear e1 e2
      go_enter Tryz.func96, Tryz.ntmps96
      go_wp2_with fail
      refine (may_any h A c _ (HS.out.below HB0.out) HF.out).mono ?_
      rintro e w1 ⟨rfl, hb1⟩
      have HB1 := hid (HB0.out.trans (hb1.mono (by simp)))
      have HX1 := hid (HX.out.later hb1)
      have hl1 : w.heap.size < w1.heap.size := Nat.lt_of_lt_of_le hw0 hb1.size
      clear hb1
      rw [hm]
      go_wp2_with fail
      refine (conr_any h A c w.heap.size R rs d _ HX1.out hl1 (HR.out.below HB1.out) hl).mono ?_
      rintro e w2 ⟨rfl, hb2⟩
      have HB2 := hid (HB1.out.trans (hb2.mono HB1.out.size))
      obtain ⟨x0, x1, x2⟩ := HX1.out.later hb2
      clear hb2
      rw [hv]
      go_wp2_with fail
      refine (reach_any h rs A R c d _ (HS.out.below HB2.out) (HR.out.below HB2.out) HM.out hl (List.all_eq_true.1 hv)).mono ?_
      rintro e w3 ⟨M, A3, c3, rfl, hown, hnd, hle, hmr, hb3⟩
      have HB3 := hid (HB2.out.trans (hb3.mono HB2.out.size))
      have HO := hid hown
      have HSL := hid (sort_live hnd hmr)
      have hz := hb3.size
      clear hown hnd hmr hb3 x0 x1 x2
      go_wp2_with fail
      refine (sort_row M A3 c3 _ _ HO.out hz hle).mono ?_
      rintro e w4 ⟨rfl, hown, hb4⟩
      rw [HSL.out] at hown
      have HO4 := hid hown
      have HB4 := hid (HB3.out.trans (hb4.mono HB2.out.size))
      have hll : (liveL h rs).length = M.length := by have := congrArg List.length HSL.out; simpa using this.symm
      clear hown hb4
      go_wp2_with fail
      go_ret2
      have hO := HO4.out
      rw [← hll] at hO ⊢
      exact ⟨A3, c3, rfl, own_ints hO, own_nil hO, own_cap hO, HB4.out⟩
end Go.Proofs.YtnilempeldlieaaGreat
namespace Go.Proofs.YtnilempeldlieaaGreat
open Go.RowKit
set_option maxRecDepth 100000
set_option maxHeartbeats 2000000 in
theorem table_any (h : Hp) (rs : List Int) (A R : Option Addr) (c d : Nat) (w : World) (hs : ObsR w A h.objs) (fit : h.Fit) (hr : IntsR w R rs) (hl : rs.length ≤ 9223372036854775807) :
    Calls Tryz.prog 49 #[.agg #[.slice A h.objs.length c, .int .i64 h.cap, .int .i64 h.last], .slice R rs.length d] w (IntsTwo w (tabL h rs) (liE h rs)) := by
  have HB0 := hid (below_alloc w (.cells #[Value.slice A h.objs.length c, Value.int .i64 h.cap, Value.int .i64 h.last] 24))
  have X0 := hid (Lies.new w 24 #[Value.slice A h.objs.length c, Value.int .i64 h.cap, Value.int .i64 h.last])
  have HS := hid hs
  have HF := hid fit
  have HR := hid hr
  clear hs fit hr
  by_cases he : liE h rs = 0
  · have hle := may_len (li_ok he).1
    have hLn := liveN_le h rs
    have HND := hid (liveN_nodup h rs)
    have HLT : Hid (∀ i ∈ liveN h rs, i < h.objs.length) := fun i hi => liveN_lt hi
    have HT := hid (tabL_yes he)
    have HL : Hid (liL h rs = (liveN h rs).map Int.ofNat) := (li_ok he).2.2
    obtain ⟨L, hL⟩ : ∃ L, L = liveN h rs := ⟨_, rfl⟩
    rw [← hL] at hLn HND HLT HT HL
    have hLe : (liL h rs).length = L.length := by rw [HL.out, List.length_map]
    rw [he]
    go_enter Tryz.func49, Tryz.ntmps49
    go_wp2_with fail
    refine (live_any h rs A R c d _ (HS.out.below HB0.out) HF.out (HR.out.below HB0.out) hl).mono ?_
    rintro e w1 ⟨A1, c1, rfl, hi1, -, -, hb1⟩
    rw [he, hLe]
    have HB1 := hid (HB0.out.trans (hb1.mono (by simp)))
    have X1 := hid (X0.out.later hb1)
    rw [HL.out] at hi1
    have HI1 := hid hi1
    clear hi1 hb1 hL hLe
    have HAL := hid (below_alloc w1 (.cells #[.int .i64 (-1)] 3))
    have x0 := (X1.out.later HAL.out).cell 0
    simp only [List.getElem?_toArray, List.getElem?_cons_zero] at x0
    go_wp2_with fail
    refine (repeat_any (-1) h.objs.length hle (some ⟨w1.heap.size, 0, none⟩) 1 _ (at_one w1 (-1))).mono ?_
    rintro e w2 ⟨A2, c2, rfl, hown, hb2⟩
    obtain ⟨W, hW⟩ : ∃ W, W = w1.alloc (.cells #[.int .i64 (-1)] 3) := ⟨_, rfl⟩
    rw [← hW] at hown hb2 HAL
    have HIW := hid (HI1.out.below HAL.out)
    have HBW := hid (then_b HB1.out HAL.out)
    have hr0 : (List.replicate h.objs.length (-1 : Int)) = (List.range h.objs.length).map (newK L 0) := by
      apply List.ext_getElem?
      intro j
      rw [List.getElem?_map, List.getElem?_replicate]
      by_cases hj : j < h.objs.length
      · rw [if_pos hj, List.getElem?_range hj]; simp [newK_zero]
      · rw [if_neg hj, List.getElem?_eq_none (by simp; omega)]; rfl
    rw [hr0] at hown
    have HO := hid hown
    have HB2 := hid hb2
    clear hown hb2 hW hr0 x0 X1 HAL HI1
    go_wp2_with fail
    go_loopw [27] (fun i wr => ∃ k : Nat, k ≤ L.length ∧ i = .int .i64 k ∧ wr.ownsRow W.heap.size 3 1 (.slice A2 h.objs.length c2) h.objs.length (((List.range h.objs.length).map (newK L k)).map (Value.int .i64)) ∧ Below W.heap.size W wr) (fun i _ => L.length - (intOf i).toNat)
    case atStart => exact ⟨0, Nat.zero_le _, rfl, HO.out, HB2.out⟩
    case round =>
      clear HO HB2
      obtain ⟨k, hk, rfl, hown, hbw⟩ := hrel
      have HO := hid hown
      have HW := hid hbw
      clear hown hbw
      by_cases hlt : k < L.length
      · obtain ⟨b, o, rfl, hb, hc⟩ := HIW.out (by rw [List.length_map]; omega)
        have hcell := (HW.out.cell (p := ⟨b, o + k, none⟩) hb).trans (hc k (L[k] : Int) (by rw [List.getElem?_map, List.getElem?_eq_getElem hlt]; rfl))
        have hln := HLT.out _ (List.getElem_mem hlt)
        obtain ⟨g, cg, hvv, hg0, hg1⟩ := HO.out.form (by omega)
        simp only [Value.slice.injEq, true_and] at hvv
        obtain ⟨rfl, rfl⟩ := hvv
        obtain ⟨q, hq⟩ : ∃ q, q = L[k] := ⟨_, rfl⟩
        have HQ := hid hq
        rw [← hq] at hcell hln
        have qc := HO.out.cellAt q (by omega)
        have qf := HO.out.frozenAt q
        rw [List.getElem?_map, List.getElem?_map, List.getElem?_range hln] at qc
        simp only [Option.map_some] at qc
        clear hc hq
        go_wp2_with fail
        go_roundw
        case rel =>
          refine ⟨k + 1, by omega, by go_num, ?_, HW.out.setCell (p := ⟨g, q, none⟩) hg0 _⟩
          have := (HO.out.stored q (.int .i64 k)).1
          rw [show Value.int .i64 (k : Int) = (Value.int .i64) (k : Int) from rfl, ← List.map_set, HQ.out, newK_step HND.out hlt, ← HQ.out] at this
          exact this
        case measure => simp [intOf]; omega
      · obtain rfl : k = L.length := by omega
        go_wp2_with fail
        go_ret2
        have hO := HO.out
        rw [← HT.out] at hO
        have hll : (tabL h rs).length = h.objs.length := by rw [HT.out]; simp
        rw [← hll] at hO ⊢
        exact ⟨A2, c2, rfl, own_ints hO, own_nil hO, own_cap hO, then_b HBW.out HW.out⟩
  · have e1 : tabL h rs = [] := tabL_no he
    have e2 : liL h rs = [] := by unfold liL; rw [if_neg he]
    have hne : (liE h rs != 0) = true := by simpa using he
    rw [e1]
    obtain ⟨en, hen⟩ : ∃ en, en = liE h rs := ⟨_, rfl⟩
    rw [← hen] at hne ⊢
    have HEN := hid hen
    clear e1 hen he
    go_enter Tryz.func49, Tryz.ntmps49
    go_wp2_with fail
    refine (live_any h rs A R c d _ (HS.out.below HB0.out) HF.out (HR.out.below HB0.out) hl).mono ?_
    rintro e w1 ⟨A1, c1, rfl, -, -, -, hb1⟩
    rw [← HEN.out]
    have HB1 := hid (HB0.out.trans (hb1.mono (by simp)))
    clear hb1
    go_wp2_with fail
    go_ret2
    exact ⟨none, 0, rfl, fun hn => by simp at hn, fun _ => rfl, Nat.le_refl _, HB1.out⟩
set_option maxHeartbeats 2000000 in
theorem values_any (t l : List Int) (A B : Option Addr) (c d : Nat) (w : World) (ht : IntsR w A t) (hl : IntsR w B l) (htl : t.length ≤ 9223372036854775807) (hll : l.length ≤ 100000) :
    Calls Tryz.prog 51 #[.slice A t.length c, .slice B l.length d] w (IntsOwn w (l.map (vaV t))) := by
  have HT := hid ht
  have HL := hid hl
  clear ht hl
  go_enter Tryz.func51, Tryz.ntmps51
  go_wp2_with fail
  refine (clone1_any B l d _ HL.out (by omega)).mono ?_
  rintro e w1 ⟨A1, c1, rfl, hown, hb1⟩
  have HO := hid hown
  have HB1 := hid hb1
  clear hown hb1
  go_wp2_with fail
  go_loopw [11] (fun i wr => ∃ k : Nat, k ≤ l.length ∧ i = .int .i64 k ∧ wr.ownsRow w.heap.size 3 1 (.slice A1 l.length c1) l.length (((l.take k).map (vaV t) ++ l.drop k).map (Value.int .i64)) ∧ Below w.heap.size w wr) (fun i _ => l.length - (intOf i).toNat)
  case atStart => exact ⟨0, Nat.zero_le _, rfl, HO.out, HB1.out⟩
  case round =>
    clear HO HB1
    obtain ⟨k, hk, rfl, hown, hbw⟩ := hrel
    have HO := hid hown
    have HW := hid hbw
    clear hown hbw
    by_cases hlt : k < l.length
    · obtain ⟨g, cg, hvv, hg0, hg1⟩ := HO.out.form (by omega)
      simp only [Value.slice.injEq, true_and] at hvv
      obtain ⟨rfl, rfl⟩ := hvv
      have qc := HO.out.cellAt k (by omega)
      have qf := HO.out.frozenAt k
      have hk2 : ((l.take k).map (vaV t)).length = k := by rw [List.length_map, List.length_take]; omega
      rw [List.getElem?_map, List.getElem?_append_right (by omega), hk2, Nat.sub_self, List.getElem?_drop, Nat.add_zero, List.getElem?_eq_getElem hlt] at qc
      simp only [Option.map_some] at qc
      have HMS := hid (map_step (vaV t) l k hlt)
      clear hk2
      go_wp2_with fail
      refine (value_any t l[k] A c _ (HT.out.below HW.out) htl).mono ?_
      rintro e w2 ⟨rfl, rfl⟩
      go_wp2_with fail
      go_roundw
      case rel =>
        refine ⟨k + 1, by omega, by go_num, ?_, HW.out.setCell (p := ⟨g, k, none⟩) hg0 _⟩
        have := (HO.out.stored k (.int .i64 (vaV t l[k]))).1
        rw [← List.map_set, HMS.out] at this
        exact this
      case measure => simp [intOf]; omega
    · obtain rfl : k = l.length := by omega
      go_wp2_with fail
      go_ret
      have hO := HO.out
      rw [List.take_length, List.drop_length, List.append_nil] at hO
      have hlm : l.length = (l.map (vaV t)).length := by simp
      refine ⟨A1, c1, congrArg (fun n => Ending.returned (.slice A1 n c1)) hlm, ?_, HW.out⟩
      rw [← hlm]
      exact hO
end Go.Proofs.YtnilempeldlieaaGreat
