/- Lists of processes as chains: what linking anew keeps; what ProcMoves leans on. -/
import Derived.Test.YtkpfmbdkfgeboaaSR14
namespace Go.Proofs.Ytkpfmbdkfgeboaa
open Go.RowKit
set_option maxRecDepth 100000
def Ch14 (h : Hp) : List Int → Prop
  | [] => True
  | q :: t => q ≠ 0 ∧ pc14 h q = true ∧ sl14 h q 0 = t.headD 0 ∧ Ch14 h t
theorem Ch14.pc {h : Hp} : ∀ {l : List Int}, Ch14 h l → ∀ q ∈ l, pc14 h q = true ∧ q ≠ 0
  | [], _, _, hq => by cases hq
  | _ :: _, c, q, hq => by
    rcases List.mem_cons.1 hq with rfl | g
    · exact ⟨c.2.1, c.1⟩
    · exact c.2.2.2.pc q g
theorem go_ch14 {h : Hp} : ∀ (t : List Int) (n : Nat) (acc : List Int), t.length < n → (acc ++ t).Nodup → Ch14 h t → go14 h n acc (t.headD 0) = some (acc ++ t)
  | [], n + 1, acc, _, _, _ => by unfold go14; rw [if_pos (show ([] : List Int).headD 0 = 0 from rfl), List.append_nil]
  | q :: t, n + 1, acc, hn, hd, hc => by
    obtain ⟨c1, c2, c3, c4⟩ := hc
    have hq : q ∉ acc := fun g => by
      have := (List.nodup_append.1 hd).2.2 q g q (by simp)
      exact this rfl
    show go14 h (n + 1) acc q = _
    unfold go14
    rw [if_neg c1, if_neg (by rw [c2]; simp [hq]), c3, go_ch14 t n (acc ++ [q]) (by simp at hn; omega) (by simpa using hd) c4]
    simp
theorem ls_ch14 {h : Hp} {l : List Int} (hd : l.Nodup) (hc : Ch14 h l) : ls14 h (l.headD 0) = some l := by
  have := len_le14 hd fun q hq => (hc.pc q hq).1
  have := go_ch14 l (h.objs.length + 1) [] (by omega) hd hc
  exact this
theorem ch_go14 {h : Hp} : ∀ (n : Nat) (acc : List Int) (p : Int) (m : List Int), go14 h n acc p = some m → ∃ t, m = acc ++ t ∧ Ch14 h t ∧ t.headD 0 = p
  | 0, _, _, _, e => by cases e
  | n + 1, acc, p, m, e => by
    unfold go14 at e
    split at e
    · rename_i h0
      injection e with e
      exact ⟨[], by rw [e, List.append_nil], trivial, h0.symm⟩
    · split at e
      · cases e
      · rename_i h0 hb
        have hpp : pc14 h p = true := by simpa using fun g => hb (.inl g)
        obtain ⟨t, k1, k2, k3⟩ := ch_go14 n (acc ++ [p]) _ m e
        exact ⟨p :: t, by rw [k1]; simp, ⟨h0, hpp, k3.symm, k2⟩, rfl⟩
theorem ch_ls14 {h : Hp} {f : Int} {l : List Int} (e : ls14 h f = some l) : Ch14 h l := by
  obtain ⟨t, h1, h2, -⟩ := ch_go14 _ _ _ _ e
  obtain rfl : l = t := by simpa using h1
  exact h2
theorem sl_set14 {h : Hp} {p q x : Int} (hp : pc14 h p = true) (hq : pc14 h q = true) : sl14 (setH h p 0 x) q 0 = if q = p then x else sl14 h q 0 := by
  obtain ⟨e1, l1⟩ := ref_two14 (pc_ref14 hp).1
  obtain ⟨e2, l2⟩ := ref_two14 (pc_ref14 hq).1
  unfold sl14
  by_cases g : q = p
  · subst g
    rw [if_pos rfl]
    have : obAt (setH h q 0 x) q = { obAt h q with slots := (obAt h q).slots.set 0 x } := by
      unfold setH obAt
      simp only [List.getD_eq_getElem?_getD, List.getElem?_set]
      rw [if_pos trivial, if_pos l2]
      rfl
    rw [this]
    have h4 := (pc_ref14 hq).2
    obtain ⟨a0, a1, a2, a3, hs⟩ := list4_14 h4
    rw [hs]; rfl
  · rw [if_neg g]
    have : obAt (setH h p 0 x) q = obAt h q := by
      unfold setH obAt
      simp only [List.getD_eq_getElem?_getD, List.getElem?_set]
      rw [if_neg (fun e => g (by omega))]
    rw [this]
theorem Ch14.set {h : Hp} {p x : Int} (hp : pc14 h p = true) (hx : atB x = true) : ∀ {l : List Int}, Ch14 h l → p ∉ l → Ch14 (setH h p 0 x) l
  | [], _, _ => trivial
  | q :: t, c, hn => by
    obtain ⟨c1, c2, c3, c4⟩ := c
    refine ⟨c1, by rw [pc_set14 hp hx]; exact c2, ?_, c4.set hp hx fun g => hn (List.mem_cons_of_mem _ g)⟩
    rw [sl_set14 hp c2, if_neg (fun e => hn (by rw [e]; simp))]
    exact c3
theorem head_at14 {h : Hp} {t : List Int} (hp : ∀ q ∈ t, pc14 h q = true) : atB (t.headD 0) = true := by
  cases t with
  | nil => decide
  | cons q s => exact (refB_no (pc_ref14 (hp q (by simp))).1).1
/-- linking l leaves other chains -/
theorem Ch14.lk {h : Hp} (hm : mayB h = true) {m : List Int} (c : Ch14 h m) : ∀ {l : List Int}, (∀ q ∈ l, pc14 h q = true) → (∀ q ∈ l, q ∉ m) → Ch14 (lk14 h l) m
  | [], _, _ => c
  | p :: t, hp, hd => by
    have hpt : ∀ q ∈ t, pc14 h q = true := fun q hq => hp q (List.mem_cons_of_mem _ hq)
    exact (c.lk hm hpt fun q hq => hd q (List.mem_cons_of_mem _ hq)).set (by rw [(lk_may14 hm hpt).2.1]; exact hp p (by simp)) (head_at14 hpt) (hd p (by simp))
/-- what is linked is a chain -/
theorem lk_ch14 {h : Hp} (hm : mayB h = true) : ∀ {l : List Int}, l.Nodup → (∀ q ∈ l, pc14 h q = true ∧ q ≠ 0) → Ch14 (lk14 h l) l
  | [], _, _ => trivial
  | p :: t, hd, hp => by
    have hpt : ∀ q ∈ t, pc14 h q = true := fun q hq => (hp q (List.mem_cons_of_mem _ hq)).1
    obtain ⟨d1, d2⟩ := List.nodup_cons.1 hd
    have hG : pc14 (lk14 h t) p = true := by rw [(lk_may14 hm hpt).2.1]; exact (hp p (by simp)).1
    have ha := head_at14 hpt
    refine ⟨(hp p (by simp)).2, ?_, ?_, (lk_ch14 hm d2 fun q hq => hp q (List.mem_cons_of_mem _ hq)).set hG ha d1⟩
    · show pc14 (setH (lk14 h t) p 0 (t.headD 0)) p = true
      rw [pc_set14 hG ha]; exact hG
    · show sl14 (setH (lk14 h t) p 0 (t.headD 0)) p 0 = _
      rw [sl_set14 hG hG, if_pos rfl]
theorem lk_sl14 {h : Hp} (hm : mayB h = true) {q : Int} (hq : pc14 h q = true) : ∀ {l : List Int}, (∀ p ∈ l, pc14 h p = true) → q ∉ l → sl14 (lk14 h l) q 0 = sl14 h q 0
  | [], _, _ => rfl
  | p :: t, hp, hn => by
    have hpt : ∀ q ∈ t, pc14 h q = true := fun q hq => hp q (List.mem_cons_of_mem _ hq)
    show sl14 (setH (lk14 h t) p 0 (t.headD 0)) q 0 = _
    rw [sl_set14 (by rw [(lk_may14 hm hpt).2.1]; exact hp p (by simp)) (by rw [(lk_may14 hm hpt).2.1]; exact hq), if_neg (fun e => hn (by rw [e]; simp)), lk_sl14 hm hq hpt fun g => hn (List.mem_cons_of_mem _ g)]
/-- one is taken from one list and inserted into another one -/
structure Mv14 (h : Hp) (f o : Int) (t m : List Int) (a b : Hp) (J : List Int) (k : Nat) : Prop where
  take : tk14 h f = (a, f, t.headD 0, 0)
  may : mayB a = true
  ins : is14 a o f = (b, J.headD 0, 0)
  may2 : mayB b = true
  fst : lr14 b (t.headD 0) = (t, 0)
  snd : lr14 b (J.headD 0) = (J, 0)
  len : J.length = m.length + 1
  at_ : f ∈ J ∧ J.idxOf f = k
  rest : J.take k ++ J.drop (k + 1) = m
  le : k < J.length
theorem moves14 {h : Hp} (hm : mayB h = true) {f o : Int} {t m : List Int} (hl : ls14 h f = some (f :: t)) (ho : ls14 h o = some m) (hd : ∀ q ∈ m, q ∉ f :: t) : ∃ a b J k, Mv14 h f o t m a b J k := by
  obtain ⟨n1, p1, -, -⟩ := ls_some14 hl
  obtain ⟨n2, p2, e2, -⟩ := ls_some14 ho
  have c1 := ch_ls14 hl
  have c2 := ch_ls14 ho
  obtain ⟨d1, d2⟩ := List.nodup_cons.1 n1
  have hf := p1 f (by simp)
  have hf0 : f ≠ 0 := c1.1
  have hat : atB 0 = true := by decide
  have hfm : f ∉ m := fun g => hd f g (by simp)
  have hpt : ∀ q ∈ t, pc14 h q = true := fun q hq => p1 q (List.mem_cons_of_mem _ hq)
  -- the heap behind the first step
  obtain ⟨G, hG⟩ : ∃ G, G = setH h f 0 0 := ⟨_, rfl⟩
  have hGm : mayB G = true := by rw [hG]; exact may_set14 hm hf (ref_zero14 hf)
  have hGp : ∀ q, pc14 G q = pc14 h q := fun q => by rw [hG, pc_set14 hf hat]
  have hGt : ∀ q ∈ t, pc14 G q = true := fun q hq => by rw [hGp]; exact hpt q hq
  obtain ⟨a, ha⟩ : ∃ a, a = lk14 G t := ⟨_, rfl⟩
  obtain ⟨a1, a2, a3⟩ := lk_may14 hGm hGt
  rw [← ha] at a1 a2
  have hap : ∀ q, pc14 a q = pc14 h q := fun q => by rw [a2, hGp]
  have htk : tk14 h f = (a, f, t.headD 0, 0) := by
    rw [tk_good14 hm hl (by simp)]
    have e1 : wl14 (f :: t) 0 = t := by unfold wl14; simp
    unfold wo14
    rw [e1, ha, hG]; rfl
  have cm : Ch14 a m := by
    rw [ha]
    refine Ch14.lk hGm ?_ hGt fun q hq g => hd q g (List.mem_cons_of_mem _ hq)
    rw [hG]; exact c2.set hf hat hfm
  have ct : Ch14 a t := by
    rw [ha]
    exact lk_ch14 hGm d2 fun q hq => ⟨hGt q hq, (c1.pc q (List.mem_cons_of_mem _ hq)).2⟩
  have hla : ls14 a o = some m := by
    have := ls_ch14 n2 cm
    rwa [e2] at this
  have hfa : fr14 a f = true := by
    unfold fr14
    have e : sl14 a f 0 = 0 := by
      rw [ha, lk_sl14 hGm (by rw [hGp]; exact hf) hGt d1, hG, sl_set14 hf hf, if_pos rfl]
    rw [hap, hf, e]; rfl
  obtain ⟨k, hk⟩ : ∃ k, k = m.findIdx (be14 a f) := ⟨_, rfl⟩
  have hkl : k ≤ m.length := by rw [hk]; exact List.findIdx_le_length
  obtain ⟨J, hJ⟩ : ∃ J, J = jl14 m f k := ⟨_, rfl⟩
  obtain ⟨b, hb⟩ : ∃ b, b = lk14 a J := ⟨_, rfl⟩
  have hmem : ∀ q, q ∈ J ↔ q = f ∨ q ∈ m := fun q => by
    rw [hJ]; unfold jl14
    have : q ∈ m ↔ q ∈ m.take k ∨ q ∈ m.drop k := by rw [← List.mem_append, List.take_append_drop]
    rw [this]
    simp only [List.mem_append, List.mem_cons]
    constructor
    · rintro (g | g | g)
      · exact .inr (.inl g)
      · exact .inl g
      · exact .inr (.inr g)
    · rintro (g | g | g)
      · exact .inr (.inl g)
      · exact .inl g
      · exact .inr (.inr g)
  have hJn : J.Nodup := by
    have hp : J.Perm (f :: m) := by
      rw [hJ]; unfold jl14
      refine List.perm_middle.trans ?_
      rw [List.take_append_drop]
    exact hp.nodup_iff.2 (List.nodup_cons.2 ⟨hfm, n2⟩)
  have hJp : ∀ q ∈ J, pc14 a q = true ∧ q ≠ 0 := fun q hq => by
    rcases (hmem q).1 hq with rfl | g
    · exact ⟨by rw [hap]; exact hf, hf0⟩
    · exact cm.pc q g
  have hJp1 : ∀ q ∈ J, pc14 a q = true := fun q hq => (hJp q hq).1
  have hjl : J.length = m.length + 1 := by rw [hJ]; exact jl_len14 m f hkl
  have e3 : J.take k = m.take k := by
    rw [hJ]; unfold jl14
    rw [List.take_append_of_le_length (by rw [List.length_take]; omega), List.take_take, Nat.min_self]
  have e4 : J.drop (k + 1) = m.drop k := by
    rw [hJ]; unfold jl14
    rw [List.drop_append, List.length_take, Nat.min_eq_left hkl, List.drop_eq_nil_of_le (by rw [List.length_take]; omega)]
    simp
  have e5 : J[k]? = some f := by
    rw [hJ]; unfold jl14
    rw [List.getElem?_append_right (by rw [List.length_take]; omega), List.length_take, Nat.min_eq_left hkl]
    simp
  have hbm := (lk_may14 a1 hJp1)
  rw [← hb] at hbm
  refine ⟨a, b, J, k, htk, a1, ?_, hbm.1, ?_, ?_, hjl, ⟨(hmem f).2 (.inl rfl), ?_⟩, by rw [e3, e4, List.take_append_drop], by omega⟩
  · unfold is14
    rw [jo_good14 a1 hla hfa hfm, ← hk, ← hJ, ← hb]
  · have cb : Ch14 b t := by
      rw [hb]
      refine ct.lk a1 hJp1 fun q hq g => ?_
      rcases (hmem q).1 hq with rfl | g2
      · exact d1 g
      · exact hd q g2 (List.mem_cons_of_mem _ g)
    exact lr_some14 hbm.1 (ls_ch14 d2 cb)
  · have cb : Ch14 b J := by rw [hb]; exact lk_ch14 a1 hJn hJp
    exact lr_some14 hbm.1 (ls_ch14 hJn cb)
  · obtain ⟨hk1, hk2⟩ := List.getElem?_eq_some_iff.1 e5
    refine idx_at14 hk1 hk2 ?_
    rw [e3]
    exact fun g => hfm (List.mem_of_mem_take g)
end Go.Proofs.Ytkpfmbdkfgeboaa
