/- A text's bytes; the sum of a text, from any sum on. -/
import Derived.Test.YthggafdfglojaaaQB
namespace Go.Proofs.Ythggafdfglojaaa
open Go.RowKit
set_option maxRecDepth 100000
/-- a text's bytes -/
def byL (s : ByteArray) : List Nat := s.data.toList.map UInt8.toNat
theorem byL_len (s : ByteArray) : (byL s).length = s.size := by simp [byL]
theorem byL_lt (s : ByteArray) : ∀ c ∈ byL s, c < 256 := by
  intro c hc
  obtain ⟨b, _, rfl⟩ := List.mem_map.1 hc
  exact b.toNat_lt
theorem byL_at (s : ByteArray) (k : Nat) (h : k < s.size) : (byL s)[k]? = some (s[k]).toNat := by
  unfold byL
  have h' : k < s.data.size := h
  rw [List.getElem?_map, Array.getElem?_toList, Array.getElem?_eq_getElem h']; rfl
theorem byL_step (s : ByteArray) (k : Nat) (h : k < s.size) : (byL s).take (k + 1) = (byL s).take k ++ [(s[k]).toNat] := by
  have hk : k < (byL s).length := by rw [byL_len]; exact h
  rw [List.take_succ_eq_append_getElem hk]
  have := byL_at s k h
  rw [List.getElem?_eq_getElem hk] at this
  injection this with this
  rw [this]
/-- the sum of what n is of, and then s -/
def moI (n : Int) (s : ByteArray) : Int := if suB n = true then ((crM n.toNat (byL s) : Nat) : Int) else 0
theorem moI_yes {n : Nat} (h : n < 4294967296) (s : ByteArray) : moI n s = ((crM n (byL s) : Nat) : Int) := by
  unfold moI; rw [if_pos (suB_iff.2 ⟨by omega, by omega⟩)]; rfl
theorem take_lt {l : List Nat} (h : ∀ c ∈ l, c < 256) (k : Nat) : ∀ c ∈ l.take k, c < 256 := fun c hc => h c (List.mem_of_mem_take hc)
end Go.Proofs.Ythggafdfglojaaa
