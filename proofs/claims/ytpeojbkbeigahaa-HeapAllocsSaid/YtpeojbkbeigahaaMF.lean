/- Allocating until a heap is full: over plain heaps. -/
import Derived.Test.YtpeojbkbeigahaaMB
namespace Go.Proofs.Ytpeojbkbeigahaa
open Go.RowKit
theorem refB_mono {n m : Nat} {v : Int} (h : refB n v = true) (l : n ≤ m) : refB m v = true := by
  unfold refB at h ⊢
  simp only [Bool.and_eq_true, decide_eq_true_eq] at h ⊢
  exact ⟨h.1, by omega⟩
theorem hasB_mono {n m : Nat} {v : Int} (h : hasB n v = true) (l : n ≤ m) : hasB m v = true := by
  unfold hasB at h ⊢
  simp only [Bool.or_eq_true] at h ⊢
  rcases h with h | h
  · exact .inl h
  · exact .inr (refB_mono h l)
theorem obB_mono {n m : Nat} {o : Ob} (h : obB n o = true) (l : n ≤ m) : obB m o = true := by
  unfold obB at h ⊢
  simp only [Bool.and_eq_true] at h ⊢
  obtain ⟨⟨⟨h1, h2⟩, h3⟩, h4⟩ := h
  exact ⟨⟨⟨refB_mono h1 l, h2⟩, h3⟩, List.all_eq_true.2 fun x hx => hasB_mono (List.all_eq_true.1 h4 x hx) l⟩
theorem refB_zero {n : Nat} (h : 0 < n) : refB n 0 = true := by
  have h0 : atV 0 = 0 := by decide +kernel
  have h1 : atB 0 = true := by decide +kernel
  unfold refB
  rw [h0, h1]
  simpa using h
theorem hasB_zero {n : Nat} (h : 0 < n) : hasB n 0 = true := by unfold hasB; rw [refB_zero h]; simp
theorem haB_next (v : Int) : haB (nxI v) = true := by
  unfold nxI haB
  split
  · exact decide_eq_true (by omega)
  · decide
/-- what the law asks of kind and size -/
structure Sized (kind size : Int) : Prop where
  k0 : 0 ≤ kind
  k2 : kind ≤ 2
  s0 : 0 ≤ size
  s4 : size ≤ 4
  fl : kind = 2 → size = 0
theorem Sized.most {kind size : Int} (s : Sized kind size) : size ≤ mostI kind := by
  obtain ⟨a, b, c, d, e⟩ := s
  unfold mostI
  split
  · omega
  · split
    · omega
    · have := e (by omega); omega
theorem fills_room {h : Hp} (hm : mayB h = true) {kind size : Int} (s : Sized kind size) (h0 : 0 < h.objs.length) (hc : (h.objs.length : Int) < h.cap) : roE h 0 kind size = 0 := by
  have m := s.most
  obtain ⟨a, b, c, d, e⟩ := s
  unfold roE
  rw [if_neg (by rw [hm]; decide), if_neg (by rw [refB_zero h0]; decide), if_neg (by omega), if_neg (by omega), if_neg (by omega)]
theorem fills_full {h : Hp} (hm : mayB h = true) {kind size : Int} (s : Sized kind size) (h0 : 0 < h.objs.length) (hc : h.cap ≤ (h.objs.length : Int)) : roE h 0 kind size = 30 ∧ alV h 0 kind size = 0 ∧ alR h 0 kind size = h := by
  have m := s.most
  obtain ⟨a, b, c, d, e⟩ := s
  have e1 : roE h 0 kind size = 30 := by
    unfold roE
    rw [if_neg (by rw [hm]; decide), if_neg (by rw [refB_zero h0]; decide), if_neg (by omega), if_neg (by omega), if_pos (by omega)]
  exact ⟨e1, by unfold alV; rw [e1]; rfl, by unfold alR; rw [e1]; rfl⟩
theorem zeroT_size (n : Nat) : (zeroT n).size = n := by
  unfold zeroT
  show (Lib.repeatL [0] n).toArray.size = n
  rw [List.size_toArray]
  induction n with
  | zero => simp [Lib.repeatL]
  | succ n ih =>
    simp [Lib.repeatL] at ih ⊢
    exact ih
theorem newO_ok {h : Hp} {kind size : Int} (s : Sized kind size) (h0 : 0 < h.objs.length) : obB (h.objs.length + 1) (newO h 0 kind size) = true ∧ (newO h 0 kind size).kind = kind ∧ ((newO h 0 kind size).slots.length : Int) + (newO h 0 kind size).text.size = size := by
  obtain ⟨a, b, c, d, e⟩ := s
  obtain ⟨n, rfl⟩ : ∃ n : Nat, size = n := ⟨size.toNat, by omega⟩
  have hz := hasB_zero (n := h.objs.length + 1) (by omega)
  have hr := refB_zero (n := h.objs.length + 1) (by omega)
  have hn := haB_next h.last
  have z := zeroT_size n
  rcases (show kind = 0 ∨ kind = 1 ∨ kind = 2 by omega) with rfl | rfl | rfl
  · refine ⟨?_, rfl, ?_⟩
    · unfold obB kiB newO blankO
      simp [hr, hn, hz]
      omega
    · unfold newO blankO
      simp [ByteArray.size]
  · refine ⟨?_, rfl, ?_⟩
    · unfold obB kiB newO blankO
      simp [hr, hn, z]
      omega
    · unfold newO blankO
      simp [z]
  · obtain rfl : n = 0 := by have := e rfl; omega
    refine ⟨?_, rfl, ?_⟩
    · unfold obB kiB newO blankO
      simp [hr, hn]
      try decide +kernel
    · unfold newO blankO
      simp [ByteArray.size]
theorem alH_may {h : Hp} (hm : mayB h = true) {kind size : Int} (s : Sized kind size) (h0 : 0 < h.objs.length) (hc : (h.objs.length : Int) < h.cap) : mayB (alH h 0 kind size) = true := by
  have ha := may_all hm
  unfold mayB at hm ⊢
  simp only [Bool.and_eq_true, decide_eq_true_eq] at hm ⊢
  have hl : (alH h 0 kind size).objs.length = h.objs.length + 1 := by simp [alH]
  rw [hl]
  obtain ⟨⟨⟨h1, h2, h3⟩, h4⟩, h5⟩ := hm
  refine ⟨⟨⟨h1, h2, ?_⟩, haB_next _⟩, List.all_eq_true.2 fun o ho => ?_⟩
  · show ((h.objs.length + 1 : Nat) : Int) ≤ h.cap
    omega
  · rcases List.mem_append.1 ho with g | g
    · exact obB_mono (ha o g) (by omega)
    · obtain rfl : o = newO h 0 kind size := by simpa using g
      exact (newO_ok s h0).1
/-- all that one round of the law asks -/
theorem fills_step {h : Hp} (hm : mayB h = true) {kind size : Int} (s : Sized kind size) (h0 : 0 < h.objs.length) (hc : (h.objs.length : Int) < h.cap) :
    roE h 0 kind size = 0 ∧ alV h 0 kind size = 2 * (h.objs.length : Int) ∧ alR h 0 kind size = alH h 0 kind size := by
  have e := fills_room hm s h0 hc
  exact ⟨e, by unfold alV; rw [if_pos e], by unfold alR; rw [if_pos e]⟩
end Go.Proofs.Ytpeojbkbeigahaa
