/- Where an object's slot or byte lies, or what is wrong with it: place, wrong; what is read there: Get, Byte, the program's and the document's. What is read of a heap: Get, Byte. -/
import Derived.Test.YtimmoaomhilaeaaN
namespace Go.Proofs.Ytimmoaomhilaeaa
open Go.RowKit
theorem len_nil {s : ByteArray} (h : s.toList = []) : s.size = 0 := by
  rw [ByteArray.toList_eq] at h
  have := congrArg List.length h
  rw [Array.length_toList] at this
  exact this
instance : Inhabited Ob := ⟨⟨0, 0, [], ⟨#[]⟩, 0, 0⟩⟩
/-- the object whose ref v is -/
def obAt (h : Hp) (v : Int) : Ob := h.objs.getD (atV v).toNat default
/-- how many slots, or bytes, an object of a kind has -/
def szO (kind : Int) (o : Ob) : Int := if kind = 1 then (o.text.size : Int) else (o.slots.length : Int)
/-- what is wrong with a place -/
def plE (h : Hp) (v kind k : Int) : Int :=
  if mayB h = false then 1 else if refB h.objs.length v = false then 31 else if (obAt h v).kind ≠ kind then 33 else if k < 0 ∨ szO kind (obAt h v) ≤ k then 32 else 0
def plV (h : Hp) (v kind k : Int) : Int := if plE h v kind k = 0 then atV v else 0
theorem may_all {h : Hp} (hm : mayB h = true) : ∀ o ∈ h.objs, obB h.objs.length o = true := by
  unfold mayB at hm
  simp only [Bool.and_eq_true] at hm
  exact List.all_eq_true.1 hm.2
theorem may_len {h : Hp} (hm : mayB h = true) : h.objs.length ≤ 256 := by
  unfold mayB at hm
  simp only [Bool.and_eq_true, decide_eq_true_eq] at hm
  omega
theorem ob_kind {n : Nat} {o : Ob} (h : obB n o = true) : kiB o = true := by
  unfold obB at h
  simp only [Bool.and_eq_true] at h
  exact h.1.2
theorem kind_len {o : Ob} (h : kiB o = true) : o.slots.length ≤ 64 ∧ o.text.size ≤ 64 ∧ (o.kind = 0 → o.text.size = 0) ∧ (o.kind = 1 → o.slots.length = 0) ∧ 0 ≤ o.kind ∧ o.kind ≤ 2 := by
  unfold kiB at h
  split at h
  · simp only [Bool.and_eq_true, decide_eq_true_eq] at h
    have := len_nil h.1.2
    omega
  · split at h
    · simp only [Bool.and_eq_true, decide_eq_true_eq] at h
      have : o.slots.length = 0 := by rw [h.1.1]; rfl
      omega
    · split at h
      · simp only [Bool.and_eq_true, decide_eq_true_eq] at h
        have := len_nil h.1.2
        have : o.slots.length = 0 := by rw [h.1.1]; rfl
        omega
      · cases h
theorem obAt_get {h : Hp} {v : Int} (hr : refB h.objs.length v = true) : ∃ i : Nat, i < h.objs.length ∧ atV v = i ∧ h.objs[i]? = some (obAt h v) := by
  obtain ⟨_, h0, h1⟩ := refB_no hr
  have hi : (atV v).toNat < h.objs.length := by omega
  refine ⟨(atV v).toNat, hi, by omega, ?_⟩
  unfold obAt
  rw [List.getD_eq_getElem?_getD, List.getElem?_eq_getElem hi]; rfl

end Go.Proofs.Ytimmoaomhilaeaa
namespace Go.Proofs.Ytimmoaomhilaeaa
open Go.RowKit
def geV (h : Hp) (v k : Int) : Int := if plE h v 0 k = 0 then (obAt h v).slots.getD k.toNat 0 else 0
def byV (h : Hp) (v k : Int) : Int := if plE h v 1 k = 0 then (((obAt h v).text.data.getD k.toNat 0).toNat : Int) else 0
theorem pl_ok {h : Hp} {v kind k : Int} (e : plE h v kind k = 0) : mayB h = true ∧ refB h.objs.length v = true ∧ (obAt h v).kind = kind ∧ 0 ≤ k ∧ k < szO kind (obAt h v) := by
  unfold plE at e
  split at e
  · cases e
  · rename_i h1
    split at e
    · cases e
    · rename_i h2
      split at e
      · cases e
      · rename_i h3
        split at e
        · cases e
        · rename_i h4
          exact ⟨by simpa using h1, by simpa using h2, by simpa using h3, by omega, by omega⟩
theorem pl_v {h : Hp} {v kind k : Int} (e : plE h v kind k = 0) : plV h v kind k = atV v := by unfold plV; rw [if_pos e]
theorem ret_2 {a a' b b' : Int} (h1 : a = a') (h2 : b = b') : Ending.returned (.tuple #[.int .i64 a, .int .i64 b]) = .returned (.tuple #[.int .i64 a', .int .i64 b']) := by rw [h1, h2]
theorem wrap_byte (x : UInt8) : wrap64 (x.toNat : Int) = x.toNat := by
  have := x.toNat_lt
  unfold wrap64; omega
theorem text_at (s : ByteArray) (j : Nat) (hj : j < s.size) : s[j] = s.data.getD j 0 := by
  rw [Array.getD_eq_getD_getElem?]
  have : s.data[j]? = some s.data[j] := Array.getElem?_eq_getElem hj
  rw [this]; rfl
theorem getD_at (xs : List Int) (j : Nat) (hj : j < xs.length) : xs[j]? = some (xs.getD j 0) := by
  rw [List.getD_eq_getElem?_getD, List.getElem?_eq_getElem hj]; rfl

end Go.Proofs.Ytimmoaomhilaeaa
