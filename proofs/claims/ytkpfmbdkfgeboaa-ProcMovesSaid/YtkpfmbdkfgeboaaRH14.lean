/- The links of a list, as an iterator: who, and who comes next, from the last one on. -/
import Derived.Test.YtkpfmbdkfgeboaaRG14
namespace Go.Proofs.Ytkpfmbdkfgeboaa
open Go.RowKit Go.Shelf
attribute [local go_sem] Oper.semAt_some
set_option maxRecDepth 100000
/-- each with the one ahead of it -/
def zq14 (x : Int) : List Int → List (Int × Int)
  | [] => []
  | v :: vs => (v, x) :: zq14 v vs
theorem zq_snoc14 : ∀ (vs : List Int) (x v : Int), zq14 x (vs ++ [v]) = zq14 x vs ++ [(v, vs.getLastD x)]
  | [], _, _ => rfl
  | u :: vs, x, v => by
    show (u, x) :: zq14 u (vs ++ [v]) = (u, x) :: zq14 u vs ++ [(v, (u :: vs).getLastD x)]
    rw [zq_snoc14 vs u v, List.getLastD_cons]; rfl
theorem zq_prefix14 : ∀ {vs us : List Int} {x : Int}, vs <+: us → zq14 x vs <+: zq14 x us
  | [], _, _, _ => List.nil_prefix
  | v :: vs, [], _, h => by simp at h
  | v :: vs, u :: us, x, h => by
    rw [List.cons_prefix_cons] at h
    obtain ⟨rfl, h⟩ := h
    show (v, x) :: zq14 v vs <+: (v, x) :: zq14 v us
    rw [List.cons_prefix_cons]
    exact ⟨rfl, zq_prefix14 h⟩
def vals14 (pre : List (Nat × Int)) : List Int := pre.map (·.2)
theorem vals_snoc14 (pre : List (Nat × Int)) (k : Nat) (v : Int) : vals14 (pre ++ [(k, v)]) = vals14 pre ++ [v] := by unfold vals14; simp
def lp14 (l : List Int) : List (Int × Int) := zq14 0 (vals14 (back14 l))
theorem back_vals14 (l : List Int) : vals14 (back14 l) = l.reverse := by
  unfold vals14 back14
  rw [List.map_reverse, List.map_map]
  congr 1
  simp [Function.comp_def]
abbrev encL14 (x : Int × Int) : Array Value := #[.int .i64 x.1, .int .i64 x.2]
theorem plinks_any14 (S : Option Addr) (n c : Nat) (w : World) :
    Calls Try.prog 70 #[.slice S n c] w fun e w' => e = .returned (.func (.func 81) #[] #[.pointer (some ⟨w.heap.size, 0, none⟩)]) ∧ w' = w.alloc (.cells #[.slice S n c] 27) := by
  go_enter Try.func70, Try.ntmps70
  go_wp2
  go_ret
  exact ⟨by simp, rfl⟩
theorem cells_of14 {w : World} {b o : Nat} {v : Value} (h : w.cell? ⟨b, o, none⟩ = some v) : ∃ cs t z, w.heap[b]? = some (.cells cs t z) := by
  unfold World.cell? at h
  split at h
  · rename_i cs t z hh
    exact ⟨cs, t, z, hh⟩
  · cases h
theorem cell_kp14 {Wr : Nat → Prop} {w W : World} (hk : Kp14 Wr w W) {b o : Nat} {v : Value} (h : w.cell? ⟨b, o, none⟩ = some v) (hn : ¬ Wr b) : W.cell? ⟨b, o, none⟩ = some v := by
  obtain ⟨cs, t, z, hc⟩ := cells_of14 h
  have := hk.kept b cs t z hc hn
  unfold World.cell? at h ⊢
  rw [hc] at h
  rw [this]; exact h
theorem ints_kp14 {Wr : Nat → Prop} {w W : World} {S : Option Addr} {xs : List Int} (hr : IntsR w S xs) (hn : ∀ a, S = some a → ¬ Wr a.block) (hk : Kp14 Wr w W) : IntsR W S xs := fun hp => by
  obtain ⟨b, o, rfl, hb, hc⟩ := hr hp
  exact ⟨b, o, rfl, Nat.lt_of_lt_of_le hb hk.size, fun j x hx => cell_kp14 hk (hc j x hx) (hn _ rfl)⟩
theorem Kp14.then_below {Wr : Nat → Prop} {w X Y : World} {B : Nat} (h : Kp14 Wr w X) (hb : Below B X Y) (hB : w.heap.size ≤ B) : Kp14 Wr w Y :=
  ⟨Nat.le_trans h.size hb.size, fun k cs t z hk hn => (hb.block k (Nat.lt_of_lt_of_le (Array.getElem?_eq_some_iff.1 hk).1 hB)).trans (h.kept k cs t z hk hn)⟩
theorem Kp14.wider {Wr Wr' : Nat → Prop} {w X : World} (h : Kp14 Wr w X) (hw : ∀ k, Wr k → Wr' k) : Kp14 Wr' w X := ⟨h.size, fun k cs t z hk hn => h.kept k cs t z hk fun e => hn (hw k e)⟩
theorem kp_put14 {Wr : Nat → Prop} (W : World) (l : Nat) (o o' : Obj) (h : W.heap[l]? = some o) (hc : o.isCells = false) : Kp14 Wr W (W.putObj l o') :=
  ⟨by simp [World.putObj], fun k cs t z hk _ => by
    rw [World.putObj_heap_other (fun e => ?_)]
    · exact hk
    · subst e
      rw [h] at hk
      cases hk
      cases hc⟩
set_option maxHeartbeats 4000000 in
theorem links_seq14 (l : List Int) (S : Option Addr) (c n bl : Nat) (Wr : Nat → Prop) (w : World) (hl : l.length ≤ 300) (hbl : Lies w bl 27 #[.slice S l.length c]) (hnb : ¬ Wr bl) (hr : IntsR w S l) (hnS : ∀ a, S = some a → ¬ Wr a.block ∧ a.block < w.heap.size) (hWr : ∀ k, Wr k → k < w.heap.size) :
    Seq14 n Try.prog 81 #[.pointer (some ⟨bl, 0, none⟩)] encL14 (Kp14 Wr) (lp14 l) w := fun yl J W hW hJ hY h0 => by
  have hwW := hW.size
  have HBL := hid (hbl.later hW)
  have HR := hid (hr.below hW)
  have HNS : Hid (∀ a, S = some a → ¬ Wr a.block ∧ a.block < W.heap.size) := fun a e => ⟨(hnS a e).1, Nat.lt_of_lt_of_le (hnS a e).2 hwW⟩
  have HWR : Hid (∀ k, Wr k → k < W.heap.size) := fun k e => Nat.lt_of_lt_of_le (hWr k e) hwW
  have HJC := hid hJ
  clear hW hbl hr hnS hWr hJ hwW
  obtain ⟨w0, hw0⟩ : ∃ x, x = (W.alloc (.cells #[.func (.yield yl) #[] #[]] 58)).alloc (.cells #[.int .i64 0] 3) := ⟨_, rfl⟩
  obtain ⟨bn, hbn⟩ : ∃ x, x = W.heap.size + 1 := ⟨_, rfl⟩
  have hB0 : Below W.heap.size W w0 := by rw [hw0]; exact below_alloc2 _ _ _
  have HY0 : Hid (Lies w0 W.heap.size 58 #[.func (.yield yl) #[] #[]]) := by
    show Lies _ _ _ _
    rw [hw0]; exact (Lies.new _ _ _).alloc _
  have HN0 : Hid (Lies w0 bn 3 #[.int .i64 0]) := by
    show Lies _ _ _ _
    have := Lies.new (W.alloc (.cells #[.func (.yield yl) #[] #[]] 58)) 3 #[.int .i64 0]
    rw [hw0, hbn]; simpa using this
  have HBL0 := hid (HBL.out.later hB0)
  have HR0 := hid (HR.out.below hB0)
  have HJ0 := hid (HJC.out _ _ _ h0 hB0)
  have hnbn : W.heap.size ≤ bn := by omega
  have hblW := HBL.out.lt
  clear HBL HR h0
  refine callsIn_of_wp_marks Try.func81 rfl trivial ?_ rfl
  simp only [Try.ntmps81, List.size_toArray, List.length_cons, List.length_nil, Nat.reduceAdd, Nat.reduceSub, Array.replicate_succ, Array.replicate_zero, List.push_toArray, List.append_toArray, List.nil_append, List.cons_append]
  have b0 := HBL0.out.cell 0
  simp only [List.getElem?_toArray, List.getElem?_cons_zero] at b0
  rw [hw0] at b0
  gi_wp2_with fail
  rw [← hw0]
  rw [← hbn]
  have HBN := hid hbn
  clear hbn
  refine ⟨trivial, fun hh => (by cases hh), ?_⟩
  refine (callsIn_wide.2 (pback_any14 S l.length c w0)).mono ?_
  rintro e w2 ⟨rfl, hw2⟩
  have hb2 : Below w0.heap.size w0 w2 := by rw [hw2]; exact below_alloc _ _
  have HB2 : Hid (Lies w2 w0.heap.size 27 #[.slice S l.length c]) := by show Lies _ _ _ _; rw [hw2]; exact Lies.new _ _ _
  have HY2 := hid (HY0.out.later hb2)
  have HN2 := hid (HN0.out.later hb2)
  have HR2 := hid (HR0.out.below hb2)
  have hW2 : Below W.heap.size W w2 := then_w hB0 hb2
  have HJ2 := hid (HJC.out _ _ _ HJ0.out (hb2.mono hB0.size))
  have hne : bn ≠ w0.heap.size := Nat.ne_of_lt HN0.out.lt
  have hne2 : W.heap.size ≠ bn := by have := HBN.out; omega
  have hle2 := hW2.size
  have hbn2 := HN2.out.lt
  have hy2 := HY2.out.lt
  clear hw2 hw0 b0
  gi_wp2_with fail
  refine range14 (gf := 86) (lb := #[.pointer (some ⟨w0.heap.size, 0, none⟩)]) rfl (enters_of Try.func86 (by kernel_rfl) rfl)
    (back_seq14 l S c (n - 1) w0.heap.size (fun k => Wr k ∨ k = bn) w2 hl HB2.out (fun g => by
      rcases g with g | g
      · have := HWR.out _ g; have := hB0.size; omega
      · exact hne g.symm) HR2.out (fun W' hk => ints_kp14 HR2.out (fun a e g => by
      rcases g with g | g
      · exact (HNS.out a e).1 g
      · have := (HNS.out a e).2; omega) hk)) (fun h k => h.trans k) (fun W' l' o o' h hc => kp_put14 W' l' o o' h hc) (Below.refl _ _) (fun _ => rfl)
    (fun pre X => Hid (Lies X bn 3 #[.int .i64 ((vals14 pre).getLastD 0)]) ∧ Hid (Lies X W.heap.size 58 #[.func (.yield yl) #[] #[]]) ∧ Hid (J (zq14 0 (vals14 pre)) X) ∧ Hid (W.heap.size ≤ X.heap.size))
    (fun s X Y hs hB => ⟨hid (hs.1.out.below hB hbn2), hid (hs.2.1.out.below hB hy2), hid (HJC.out _ _ _ hs.2.2.1.out (hB.mono hle2)), hid (Nat.le_trans hs.2.2.2.out hB.size)⟩)
    ⟨HN2, HY2, HJ2, hle2⟩ ?a1 ?assign ?body ?done
  case assign =>
    intro l' x X K hK
    gi_wp2
    exact hK
  case body =>
    rintro l' pre x X ⟨hn, hy, hj, hsz⟩ hpre
    obtain ⟨k, v⟩ := x
    obtain ⟨nx, hnx⟩ : ∃ y, y = (vals14 pre).getLastD 0 := ⟨_, rfl⟩
    have HZ : Hid (zq14 0 (vals14 (pre ++ [(k, v)])) = zq14 0 (vals14 pre) ++ [(v, nx)]) := by
      show _ = _
      rw [vals_snoc14, hnx]
      exact zq_snoc14 _ _ _
    have HP : Hid (zq14 0 (vals14 pre) ++ [(v, nx)] <+: lp14 l) := by
      show _ <+: _
      rw [← HZ.out]
      exact zq_prefix14 (List.IsPrefix.map _ hpre)
    have hn : Lies X bn 3 #[.int .i64 nx] := by rw [hnx]; exact hn.out
    have HL : Hid ((vals14 (pre ++ [(k, v)])).getLastD 0 = v) := by show _ = _; rw [vals_snoc14]; simp
    obtain ⟨fn, tmps, assign, body, hyy, hR⟩ := hY _ (v, nx) X hj.out HP.out
    dsimp only [encL14] at hyy
    have n0 := hn.cell 0
    have y0 := hy.out.cell 0
    simp only [List.getElem?_toArray, List.getElem?_cons_zero] at n0 y0
    have HNX := hid hn
    clear hn hj hnx hpre
    gi_wp2
    refine ⟨fun hh => (by cases hh), (round_any14 hR).mono ?_⟩
    rintro e X3 ⟨rfl, hj3, hk3, hkf⟩
    have hbnW : ¬ Wr bn := fun g => by have := HWR.out _ g; omega
    have hyW : ¬ Wr W.heap.size := fun g => by have := HWR.out _ g; omega
    have HN3 := hid (hk3.lies HNX.out hbnW)
    have HY3 := hid (hk3.lies hy.out hyW)
    have HJ3 := hid hj3
    have HK3 := hid hk3
    have HKF := hid (keeps_from14 hkf hle2)
    clear hj3 hk3 hkf n0 y0
    have n0 := HN3.out.cell 0
    have nf := HN3.out.frozen 0
    simp only [List.getElem?_toArray, List.getElem?_cons_zero] at n0
    gi_wp2
    refine ⟨HKF.out.trans ((KeepsOthers.setCell _ _ _).from _), (HK3.out.wider fun k' g => .inl g).trans (Kp14.set_ (.inr rfl) 0 _), ?_, HY3.out.far (p := ⟨bn, 0, none⟩) hne2 _, ?_, by simp; exact Nat.le_trans hsz.out HK3.out.size⟩
    · rw [HL.out]; exact HN3.out.set_ 0 (.int .i64 v)
    · rw [HZ.out]; exact HJC.out _ _ _ HJ3.out ((Below.refl _ _).setCell (p := ⟨bn, 0, none⟩) hnbn _)
  case done =>
    rintro D X hD ⟨hn, hy, hj, hsz⟩ hK
    gi_wp2
    refine ⟨by simp, .inl ⟨_, _, rfl, run_takeDeferred hK, ?_⟩⟩
    exact ⟨_, results_none rfl _ _ _, ⟨_, rfl⟩, HJC.out _ _ _ hj.out (below_put14 (Nat.le_trans hle2 hD) hK)⟩
end Go.Proofs.Ytkpfmbdkfgeboaa
