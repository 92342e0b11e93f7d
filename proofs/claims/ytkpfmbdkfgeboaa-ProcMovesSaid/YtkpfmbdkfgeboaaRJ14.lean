/- The processes of a list, one behind the other: proc.link. -/
import Derived.Test.YtkpfmbdkfgeboaaRI14
namespace Go.Proofs.Ytkpfmbdkfgeboaa
open Go.RowKit Go.Shelf
attribute [local go_sem] Oper.semAt_some
set_option maxRecDepth 100000
def zfst14 (ps : List (Int × Int)) : List Int := ps.map (·.1)
def lf14 (H : Hp) (ps : List (Int × Int)) : Hp := ps.foldl (fun G x => setH G x.1 0 x.2) H
theorem snoc_ind14 {α : Type} {Q : List α → Prop} (h0 : Q []) (h1 : ∀ l x, Q l → Q (l ++ [x])) (l : List α) : Q l := by
  have k : ∀ m : List α, Q m.reverse := by
    intro m
    induction m with
    | nil => exact h0
    | cons x m ih => rw [List.reverse_cons]; exact h1 _ _ ih
  have := k l.reverse
  rwa [List.reverse_reverse] at this
theorem lf_snoc14 (H : Hp) (ps : List (Int × Int)) (x : Int × Int) : lf14 H (ps ++ [x]) = setH (lf14 H ps) x.1 0 x.2 := by unfold lf14; rw [List.foldl_append]; rfl
theorem lf_same14 (H : Hp) : ∀ ps : List (Int × Int), (lf14 H ps).objs.length = H.objs.length ∧ (lf14 H ps).cap = H.cap ∧ (lf14 H ps).last = H.last := by
  refine snoc_ind14 ⟨rfl, rfl, rfl⟩ fun ps x ih => ?_
  rw [lf_snoc14]
  exact ⟨(setH_len _ _ _ _).trans ih.1, ih.2.1, ih.2.2⟩
theorem pc_set14 {G : Hp} {p nx : Int} (hp : pc14 G p = true) (hn : atB nx = true) (q : Int) : pc14 (setH G p 0 nx) q = pc14 G q := by
  obtain ⟨hr, hl⟩ := pc_ref14 hp
  cases hq : refB G.objs.length q
  · unfold pc14 in14
    rw [setH_len, hq]; simp
  · by_cases e : q = p
    · subst e
      have ho : obAt (setH G q 0 nx) q = { obAt G q with slots := (obAt G q).slots.set (0 : Int).toNat nx } := by rw [setH_put, obAt_put hr hr, if_pos rfl]
      obtain ⟨a, b, c, d, hs⟩ := list4_14 hl
      have hp2 := hp
      rw [hp]
      unfold pc14 in14 sl14 at hp ⊢
      rw [setH_len, ho]
      rw [hs] at hp ⊢
      simp at hp ⊢
      simp [hp, hn]
    · have ho : obAt (setH G p 0 nx) q = obAt G q := by rw [setH_put, obAt_put hr hq, if_neg e]
      unfold pc14 in14 sl14
      rw [setH_len, ho]
theorem lf_pc14 {H : Hp} : ∀ {ps : List (Int × Int)}, (∀ x ∈ ps, pc14 H x.1 = true ∧ atB x.2 = true) → ∀ q, pc14 (lf14 H ps) q = pc14 H q := by
  intro ps
  refine snoc_ind14 (Q := fun ps => (∀ x ∈ ps, pc14 H x.1 = true ∧ atB x.2 = true) → ∀ q, pc14 (lf14 H ps) q = pc14 H q) (fun _ q => rfl) (fun ps x ih hx q => ?_) ps
  have ih' := ih fun y hy => hx y (List.mem_append_left _ hy)
  obtain ⟨h1, h2⟩ := hx x (by simp)
  rw [lf_snoc14, pc_set14 (by rw [ih']; exact h1) h2, ih']
theorem zq_fst14 : ∀ (x : Int) (vs : List Int), (zq14 x vs).map (·.1) = vs
  | _, [] => rfl
  | x, v :: vs => by show v :: (zq14 v vs).map (·.1) = _; rw [zq_fst14]
theorem zq_mem14 : ∀ {vs : List Int} {x : Int} {y : Int × Int}, y ∈ zq14 x vs → y.1 ∈ vs ∧ (y.2 = x ∨ y.2 ∈ vs)
  | [], _, _, h => by cases h
  | v :: vs, x, y, h => by
    rcases List.mem_cons.1 h with rfl | h
    · exact ⟨by simp, .inl rfl⟩
    · obtain ⟨h1, h2⟩ := zq_mem14 h
      exact ⟨List.mem_cons_of_mem _ h1, .inr (by rcases h2 with rfl | h2 <;> simp [*])⟩
theorem rev_last14 (t : List Int) : t.reverse.getLastD 0 = t.headD 0 := by cases t <;> simp
theorem lf_lk14 (H : Hp) : ∀ l : List Int, lf14 H (zq14 0 l.reverse) = lk14 H l
  | [] => rfl
  | p :: t => by
    rw [List.reverse_cons, zq_snoc14, lf_snoc14, lf_lk14 H t, rev_last14]; rfl
theorem own_below14 {X Y : World} {B base : Nat} {e : TypeId} {size n cp : Nat} {S : Option Addr} {xs : List Value} (h : X.ownsRow base e size (.slice S n cp) n xs) (hb : Below B X Y) (hS : ∀ a, S = some a → a.block < B) : Y.ownsRow base e size (.slice S n cp) n xs := by
  refine ⟨h.1, ?_⟩
  rcases h.2 with hn | ⟨g, cap, cur, hv, hg, hr, h3⟩
  · exact .inl hn
  · have hv2 := hv
    simp only [Value.slice.injEq] at hv2
    exact .inr ⟨g, cap, cur, hv, hg, (hb.block g (hS _ hv2.1)).trans hr, h3⟩
theorem OwnH.below14 {X Y : World} {B base : Nat} {A : Option Addr} {c : Nat} {ls : List LO} (h : OwnH X base A c ls) (hb : Below B X Y) (hA : ∀ a, A = some a → a.block < B) (hS : ∀ g, Wr14 ls g → g < B) : OwnH Y base A c ls :=
  ⟨own_below14 h.row hb hA, fun i l hl => own_below14 (h.ints i l hl) hb fun a e => hS _ ⟨l, List.mem_of_getElem? hl, a, e, rfl⟩, h.apart⟩
theorem wr_lt14 {w : World} {base : Nat} {A : Option Addr} {c : Nat} {ls : List LO} (h : OwnH w base A c ls) (g : Nat) (hg : Wr14 ls g) : g < w.heap.size ∧ base ≤ g := by
  obtain ⟨l, hl, a, hS, rfl⟩ := hg
  obtain ⟨i, hi⟩ := List.getElem?_of_mem hl
  have h1 := h.ints i l hi
  rw [hS] at h1
  exact ⟨(h1.lt a.block rfl).2, (h1.lt a.block rfl).1⟩
set_option maxHeartbeats 4000000 in
theorem plink_any14 (H : Hp) (l : List Int) (A : Option Addr) (c : Nat) (S : Option Addr) (cl base : Nat) (ls : List LO) (w : World) (ho : OwnH w base A c ls) (hls : ls.map (·.o) = H.objs) (hp : ∀ q ∈ l, pc14 H q = true) (hl : l.length ≤ 300) (hr : IntsR w S l) (hnS : ∀ a, S = some a → ¬ Wr14 ls a.block ∧ a.block < w.heap.size) (hb0 : base ≤ w.heap.size) :
    Calls Try.prog 51 #[.agg #[.slice A H.objs.length c, .int .i64 H.cap, .int .i64 H.last], .slice S l.length cl] w fun e w' => e = .returned (.int .i64 (l.headD 0)) ∧ ∃ ls', ls'.map (·.o) = (lk14 H l).objs ∧ OwnH w' base A c ls' ∧ ls'.map (·.S) = ls.map (·.S) ∧ On14 (Wr14 ls) w w' := by
  refine (callsIn_wide (n := 9)).1 ?_
  obtain ⟨w0, hw0⟩ : ∃ x, x = (w.alloc (.cells #[Value.slice A H.objs.length c, Value.int .i64 H.cap, Value.int .i64 H.last] 24)).alloc (.cells #[.int .i64 0] 3) := ⟨_, rfl⟩
  obtain ⟨bf, hbf⟩ : ∃ x, x = w.heap.size + 1 := ⟨_, rfl⟩
  have hB0 : Below w.heap.size w w0 := by rw [hw0]; exact below_alloc2 _ _ _
  have HX0 : Hid (Lies w0 w.heap.size 24 #[Value.slice A H.objs.length c, Value.int .i64 H.cap, Value.int .i64 H.last]) := by
    show Lies _ _ _ _
    rw [hw0]; exact (Lies.new _ _ _).alloc _
  have HF0 : Hid (Lies w0 bf 3 #[.int .i64 0]) := by
    show Lies _ _ _ _
    have := Lies.new (w.alloc (.cells #[Value.slice A H.objs.length c, Value.int .i64 H.cap, Value.int .i64 H.last] 24)) 3 #[.int .i64 0]
    rw [hw0, hbf]; simpa using this
  have HWL : Hid (∀ g, Wr14 ls g → g < w.heap.size) := fun g hg => (wr_lt14 ho g hg).1
  have HAL : Hid (∀ a, A = some a → a.block < w.heap.size) := fun a e => by
    have := ho.row.lt a.block (by rw [e]; rfl)
    exact this.2
  have HO0 := hid (ho.later hB0)
  have HR0 := hid (hr.below hB0)
  have HNS := hid hnS
  have HP := hid hp
  have HLS := hid hls
  have HBASE := hid hb0
  have hfne : w.heap.size ≠ bf := by omega
  have hbfw : w.heap.size ≤ bf := by omega
  have HBF := hid hbf
  clear ho hr hnS hp hls hb0
  refine callsIn_of_wp_marks Try.func51 rfl trivial ?_ rfl
  simp only [Try.ntmps51, List.size_toArray, List.length_cons, List.length_nil, Nat.reduceAdd, Nat.reduceSub, Array.replicate_succ, Array.replicate_zero, List.push_toArray, List.append_toArray, List.nil_append, List.cons_append]
  gi_wp2_with fail
  rw [← hw0, ← hbf]
  clear hbf
  refine ⟨trivial, ?_⟩
  refine (callsIn_wide.2 (plinks_any14 S l.length cl w0)).mono ?_
  rintro e w2 ⟨rfl, hw2⟩
  have hb2 : Below w0.heap.size w0 w2 := by rw [hw2]; exact below_alloc _ _
  have HL2 : Hid (Lies w2 w0.heap.size 27 #[.slice S l.length cl]) := by show Lies _ _ _ _; rw [hw2]; exact Lies.new _ _ _
  have HX2 := hid (HX0.out.later hb2)
  have HF2 := hid (HF0.out.later hb2)
  have HO2 := hid (HO0.out.later hb2)
  have HR2 := hid (HR0.out.below hb2)
  have hW2 : Below w.heap.size w w2 := then_w hB0 hb2
  have hle2 := hW2.size
  have hx2 := HX2.out.lt
  have hf2 := HF2.out.lt
  have hB0s := hB0.size
  clear hw2 hw0
  gi_wp2_with fail
  refine range14 (gf := 81) (lb := #[.pointer (some ⟨w0.heap.size, 0, none⟩)]) rfl (enters_of Try.func81 (by kernel_rfl) rfl)
    (links_seq14 l S cl 8 w0.heap.size (fun k => Wr14 ls k ∨ k = bf) w2 hl HL2.out (fun g => by
      rcases g with g | g
      · have := HWL.out _ g; omega
      · have := HF0.out.lt; omega) HR2.out (fun a e => ⟨fun g => by
      rcases g with g | g
      · exact (HNS.out a e).1 g
      · have := (HNS.out a e).2; omega, Nat.lt_of_lt_of_le (HNS.out a e).2 hle2⟩) (fun k g => by
      rcases g with g | g
      · exact Nat.lt_of_lt_of_le (HWL.out k g) hle2
      · rw [g]; exact hf2)) (fun h k => h.trans k) (fun W' l' o o' h hc => kp_put14 W' l' o o' h hc) (Below.refl _ _) (fun _ => rfl)
    (fun pre X => Hid (∃ ls', ls'.map (·.o) = (lf14 H pre).objs ∧ OwnH X base A c ls' ∧ ls'.map (·.S) = ls.map (·.S)) ∧ Hid (Lies X bf 3 #[.int .i64 ((zfst14 pre).getLastD 0)]) ∧ Hid (Lies X w.heap.size 24 #[Value.slice A H.objs.length c, Value.int .i64 H.cap, Value.int .i64 H.last]) ∧ Hid (On14 (Wr14 ls) w X))
    (fun s X Y hs hB => by
      obtain ⟨h1, h2, h3, h4⟩ := hs
      obtain ⟨ls', k1, k2, k3⟩ := h1.out
      exact ⟨hid ⟨ls', k1, k2.below14 hB (fun a e => Nat.lt_of_lt_of_le (HAL.out a e) hle2) (fun g hg => Nat.lt_of_lt_of_le (HWL.out g ((wr_same14 k3 g).1 hg)) hle2), k3⟩, hid (h2.out.below hB hf2), hid (h3.out.below hB hx2), hid (h4.out.then_below hB hle2)⟩)
    ⟨hid ⟨ls, HLS.out, HO2.out, rfl⟩, HF2, HX2, hid (On14.of_below hW2)⟩ ?a1 ?assign ?body ?done
  case assign =>
    intro l' x X K hK
    gi_wp2
    exact hK
  case body =>
    rintro l' pre x X ⟨h1, h2, h3, h4⟩ hpre
    obtain ⟨p, nx⟩ := x
    obtain ⟨ls', k1, k2, k3⟩ := h1.out
    obtain ⟨G, hG⟩ : ∃ G, G = lf14 H pre := ⟨_, rfl⟩
    have hmem : ∀ y ∈ pre ++ [(p, nx)], pc14 H y.1 = true ∧ atB y.2 = true := fun y hy => by
      have := hpre.subset hy
      unfold lp14 at this
      rw [back_vals14] at this
      obtain ⟨m1, m2⟩ := zq_mem14 this
      refine ⟨HP.out _ (by simpa using m1), ?_⟩
      rcases m2 with m2 | m2
      · rw [m2]; decide
      · exact (refB_no (pc_ref14 (HP.out _ (by simpa using m2))).1).1
    have hpG : pc14 G p = true := by
      rw [hG, lf_pc14 (fun y hy => hmem y (List.mem_append_left _ hy))]
      exact (hmem (p, nx) (by simp)).1
    obtain ⟨g1, g2, g3⟩ := lf_same14 H pre
    rw [← hG] at g1 g2 g3 k1
    have HS : Hid (Calls Try.prog 54 #[.agg #[.slice A H.objs.length c, .int .i64 H.cap, .int .i64 H.last], .int .i64 p, .int .i64 nx] X fun e w' => (∃ v, e = .returned v) ∧ ∃ ls2, ls2.map (·.o) = (setH G p 0 nx).objs ∧ OwnH w' base A c ls2 ∧ ls2.map (·.S) = ls'.map (·.S) ∧ On14 (Wr14 ls') X w') := by
      have := psetnext_any14 G p nx A c base ls' X k2 k1 hpG (Nat.le_trans HBASE.out h4.out.size)
      rw [g1, g2, g3] at this
      exact this
    have HG : Hid (lf14 H (pre ++ [(p, nx)]) = setH G p 0 nx) := by show _ = _; rw [lf_snoc14, hG]
    have HZ : Hid ((zfst14 (pre ++ [(p, nx)])).getLastD 0 = p) := by show _ = _; unfold zfst14; simp
    have HK3 := hid k3
    have H4 := hid h4.out
    have H3 := hid h3.out
    have H2 := hid h2.out
    obtain ⟨x0, x1, x2⟩ := H3.out.c3
    clear h1 h2 h3 h4 k1 k2 k3 hG hmem hpG g1 g2 g3 hpre
    gi_wp2_with fail
    refine ⟨trivial, ?_⟩
    refine (callsIn_wide.2 HS.out).mono ?_
    rintro e X3 ⟨⟨v, rfl⟩, ls2, m1, m2, m3, m4⟩
    have hwr : ∀ k, Wr14 ls' k → k < w.heap.size := fun k g => HWL.out k ((wr_same14 HK3.out k).1 g)
    have m5 : On14 (Wr14 ls) X X3 := ⟨m4.os, m4.tape, m4.output, m4.size, fun k hk hn => m4.block k hk fun g => hn ((wr_same14 HK3.out k).1 g)⟩
    have HF3 : Hid (Lies X3 bf 3 #[.int .i64 ((zfst14 pre).getLastD 0)]) := (m4.block bf H2.out.lt fun g => by have := hwr _ g; omega).trans H2.out
    have HX3 : Hid (Lies X3 w.heap.size 24 #[Value.slice A H.objs.length c, Value.int .i64 H.cap, Value.int .i64 H.last]) := (m4.block w.heap.size H3.out.lt fun g => by have := hwr _ g; omega).trans H3.out
    have HM1 := hid m1
    have HM2 := hid m2
    have HM3 := hid (m3.trans HK3.out)
    have HKF := hid (m4.keeps (B := w2.heap.size) fun k g => Nat.lt_of_lt_of_le (hwr k g) hle2)
    have HM5 := hid m5
    have HWR := hid hwr
    clear m1 m2 m3 m4 m5 x0 x1 x2 hwr
    have f0 := HF3.out.cell 0
    have ff := HF3.out.frozen 0
    simp only [List.getElem?_toArray, List.getElem?_cons_zero] at f0
    gi_wp2
    have HL3 := HF3.out.set_ 0 (.int .i64 p)
    refine ⟨HKF.out.trans ((KeepsOthers.setCell _ _ _).from _), ?_, ?_, ?_, HX3.out.far (p := ⟨bf, 0, none⟩) hfne _, ?_⟩
    · exact (HM5.out.kp.wider fun k' g => .inl g).trans (Kp14.set_ (.inr rfl) 0 _)
    · exact ⟨ls2, by rw [HG.out]; exact HM1.out, HM2.out.below14 (B := w.heap.size) ((Below.refl _ _).setCell (p := ⟨bf, 0, none⟩) hbfw _) HAL.out (fun g hg => HWL.out g ((wr_same14 HM3.out g).1 hg)), HM3.out⟩
    · rw [HZ.out]; exact HL3
    · exact (H4.out.then_on HM5.out).set_ (.inr hbfw) _ _
  case done =>
    rintro D X hD ⟨h1, h2, h3, h4⟩ hK
    have f0 := h2.out.cell 0
    simp only [List.getElem?_toArray, List.getElem?_cons_zero] at f0
    have hz : (zfst14 (lp14 l)).getLastD 0 = l.headD 0 := by
      unfold zfst14 lp14
      rw [zq_fst14, back_vals14, rev_last14]
    rw [hz] at f0
    obtain ⟨ls', k1, k2, k3⟩ := h1.out
    have e1 : lf14 H (lp14 l) = lk14 H l := by unfold lp14; rw [back_vals14, lf_lk14]
    rw [e1] at k1
    have K1 := hid k1
    have K2 := hid k2
    have K3 := hid k3
    have K4 := hid h4.out
    have hb : Below w.heap.size X (X.putObj D (.deferred none)) := below_put14 (Nat.le_trans hle2 hD) hK
    have HBD := hid hb
    clear k1 k2 k3 h1 h2 h3 h4 hz e1 hb
    gi_wp2
    refine ⟨by simp, .inl ⟨_, _, rfl, run_takeDeferred hK, ?_⟩⟩
    exact ⟨_, results_tmp rfl _ _ _, rfl, ls', K1.out, K2.out.below14 HBD.out HAL.out (fun g hg => HWL.out g ((wr_same14 K3.out g).1 hg)), K3.out, K4.out.then_below HBD.out (Nat.le_refl _)⟩
end Go.Proofs.Ytkpfmbdkfgeboaa
