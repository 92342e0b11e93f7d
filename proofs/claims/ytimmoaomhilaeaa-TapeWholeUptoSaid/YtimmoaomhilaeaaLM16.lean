/- Draws in a row, in plain mathematics. -/
import Derived.Test.YtimmoaomhilaeaaLA16
namespace Go.Proofs.Ytimmoaomhilaeaa
open Go.RowKit
set_option maxRecDepth 100000
/-- a list that is read, and does not lie in block g -/
def RdN (w : World) (g : Nat) (A : Option Addr) (xs : List Int) : Prop := IntsR w A xs ∧ (0 < xs.length → ∀ a, A = some a → a.block ≠ g)
theorem RdN.below {w w' : World} {g : Nat} {A : Option Addr} {xs : List Int} (h : RdN w g A xs) (hb : Below w.heap.size w w') : RdN w' g A xs := ⟨h.1.below hb, h.2⟩
theorem RdN.far {w : World} {g i : Nat} {A : Option Addr} {xs : List Int} (h : RdN w g A xs) (u : Value) : RdN (w.setCell ⟨g, i, none⟩ u) g A xs := by
  refine ⟨fun h0 => ?_, h.2⟩
  obtain ⟨b, o, e, hlt, hc⟩ := h.1 h0
  exact ⟨b, o, e, by rw [World.size_setCell]; exact hlt, fun j x hj => far_cell16 (h.2 h0 _ e) (hc j x hj)⟩
theorem rdn_old16 {w : World} {g : Nat} {A : Option Addr} {xs : List Int} (h : IntsR w A xs) (hg : w.heap.size ≤ g) : RdN w g A xs := by
  refine ⟨h, fun h0 a e => ?_⟩
  obtain ⟨b, o, e2, hlt, _⟩ := h h0
  rw [e2] at e
  cases e
  show b ≠ g
  omega
theorem rdn_new16 {w : World} {g base : Nat} {A : Option Addr} {xs : List Int} (h : RdF w base A xs) (hg : g < base) : RdN w g A xs :=
  ⟨h.1, fun _ a e => by have := h.2 a e; omega⟩
structure Go16 (t : Tp) (j : Nat) (u : Tp) : Prop where
  may : mayT u = true
  all : allT u = allT t ++ List.replicate (j - (allT t).length) 0
  len : u.log.length = max j t.log.length
theorem Go16.start {t : Tp} (h : mayT t = true) : Go16 t 0 t := ⟨h, by simp, by simp⟩
theorem Go16.lens {t u : Tp} {j : Nat} (h : Go16 t j u) : u.log.length + u.rest.length = max (t.log.length + t.rest.length) j := by
  have := congrArg List.length h.all
  rw [List.length_append, List.length_replicate, allT_len, allT_len] at this
  omega
theorem getD_rep16 (l : List Int) (k j : Nat) : (l ++ List.replicate k 0).getD j 0 = l.getD j 0 := by
  rw [List.getD_eq_getElem?_getD, List.getD_eq_getElem?_getD, List.getElem?_append]
  split
  · rfl
  · rename_i h
    rw [List.getElem?_replicate, List.getElem?_eq_none (by omega)]
    split <;> rfl
theorem drN_all16 {u : Tp} {j : Nat} (h : drB u j = true) : drN u j = (allT u).getD j 0 := by unfold drN; rw [if_pos h]; rfl
theorem Go16.drB {t u : Tp} {j i : Nat} (h : Go16 t j u) (hi : i ≤ j) (hj : j ≤ 50) : drB u i = true := drB_in16 h.may (by have := h.len; omega) (by omega)
theorem Go16.val {t u : Tp} {j i : Nat} (h : Go16 t j u) (hi : i ≤ j) (hj : j ≤ 50) : drN u i = (allT t).getD i 0 := by
  rw [drN_all16 (h.drB hi hj), h.all, getD_rep16]
theorem Go16.again {t u : Tp} {j i : Nat} (h : Go16 t j u) (hi : i < j) (hj : j ≤ 50) {x : Int} (hx : (allT t).getD i 0 = x) : drN u i = x ∧ drT u i = u ∧ drE u i = 0 := by
  obtain ⟨-, h2, h3⟩ := dr_in16 h.may (m := i) (by have := h.len; omega) (by omega)
  exact ⟨(h.val (by omega) hj).trans hx, h2, h3⟩
theorem may_more16 {u v : Tp} (h : mayT u = true) (hu : u.log.length + u.rest.length ≤ 500) (hv : allT v = allT u ∨ allT v = allT u ++ [0]) : mayT v = true := by
  obtain ⟨h1, -⟩ := mayT_iff16.1 h
  refine mayT_iff16.2 ⟨fun x hx => ?_, ?_⟩
  · rcases hv with e | e <;> rw [e] at hx
    · exact h1 x hx
    · rcases List.mem_append.1 hx with g | g
      · exact h1 x g
      · rw [List.mem_singleton.1 g]; decide
  · rw [← allT_len]
    rcases hv with e | e <;> rw [e]
    · rw [allT_len]; omega
    · rw [List.length_append, allT_len]; simp; omega
theorem Go16.step {t u : Tp} {j : Nat} (h : Go16 t j u) (hg : t.log.length + t.rest.length ≤ 100) (hj : j < 50) {x : Int} (hx : (allT t).getD j 0 = x) :
    ∃ v, (drN u j = x ∧ drT u j = v ∧ drE u j = 0) ∧ Go16 t (j + 1) v := by
  have hB := h.drB (Nat.le_refl j) (by omega)
  have hl := h.len
  have hs := h.lens
  have hn := allT_len t
  have hN := (h.val (Nat.le_refl j) (by omega)).trans hx
  by_cases hlt : j < u.log.length
  · obtain ⟨h2, -⟩ := drT_log hB hlt
    refine ⟨u, ⟨hN, h2, drE_yes hB⟩, h.may, ?_, by omega⟩
    rw [h.all]
    have e1 : j - (allT t).length = 0 := by omega
    have e2 : j + 1 - (allT t).length = 0 := by omega
    rw [e1, e2]
  · have hjl : j = u.log.length := by omega
    obtain ⟨h2, h3⟩ := drT_new hB hjl
    refine ⟨_, ⟨hN, h2, drE_yes hB⟩, ?_⟩
    have hall : allT (⟨u.log ++ [u.rest.getD 0 0], u.rest.drop 1⟩ : Tp) = allT t ++ List.replicate (j + 1 - (allT t).length) 0 ∧ (allT (⟨u.log ++ [u.rest.getD 0 0], u.rest.drop 1⟩ : Tp) = allT u ∨ allT (⟨u.log ++ [u.rest.getD 0 0], u.rest.drop 1⟩ : Tp) = allT u ++ [0]) := by
      have hA := h.all
      cases hr : u.rest with
      | nil =>
        have e : allT (⟨u.log ++ [([] : List Int).getD 0 0], ([] : List Int).drop 1⟩ : Tp) = allT u ++ [0] := by
          unfold allT; rw [hr]; simp
        refine ⟨?_, .inr e⟩
        rw [e, hA]
        rw [hr] at hs
        simp only [List.length_nil] at hs
        have e3 : j + 1 - (allT t).length = (j - (allT t).length) + 1 := by omega
        rw [e3, List.replicate_succ', List.append_assoc]
      | cons y ys =>
        have e : allT (⟨u.log ++ [(y :: ys).getD 0 0], (y :: ys).drop 1⟩ : Tp) = allT u := by
          unfold allT; rw [hr]; simp
        refine ⟨?_, .inl e⟩
        rw [e, hA]
        rw [hr] at hs
        simp only [List.length_cons] at hs
        have e1 : j - (allT t).length = 0 := by omega
        have e2 : j + 1 - (allT t).length = 0 := by omega
        rw [e1, e2]
    refine ⟨may_more16 h.may (by omega) hall.2, hall.1, ?_⟩
    show (u.log ++ [_]).length = _
    rw [List.length_append]; simp; omega
end Go.Proofs.Ytimmoaomhilaeaa
