/- A cache of what was found, in plain mathematics. -/
import Derived.Test.YtcahdhocilmoeaaSE9
namespace Go.Proofs.Ytcahdhocilmoeaa
open Go.RowKit
/-- a place of a cache -/
structure En where
  c : Int
  s : Int
  m : Int
  k : Int
  full : Bool
def em10 : En := ⟨0, 0, 0, 0, false⟩
/-- where a class and a selector lie, among n places -/
def pl10 (n : Nat) (c s : Int) : Int := (Int.tmod (IntKind.i64.wrap (IntKind.i64.wrap (31 * c) + s)) n + n).tmod n
theorem pl10_in {n : Nat} (hn : 1 ≤ n) (c s : Int) : 0 ≤ pl10 n c s ∧ pl10 n c s < n := by
  have h0 : (0 : Int) < n := by omega
  unfold pl10
  obtain ⟨z, hz⟩ : ∃ z, z = IntKind.i64.wrap (IntKind.i64.wrap (31 * c) + s) := ⟨_, rfl⟩
  rw [← hz]
  have h1 : -(n : Int) < z.tmod n := by
    have := Int.lt_tmod_of_pos z h0
    omega
  have h2 : 0 ≤ z.tmod n + n := by omega
  exact ⟨Int.tmod_nonneg _ h2, Int.tmod_lt_of_pos _ h0⟩
theorem pl10_mid {n : Nat} (hn : 1 ≤ n) (z : Int) : 0 < z.tmod n + n ∧ z.tmod n + n < 2 * n := by
  have h0 : (0 : Int) < n := by omega
  have h1 := Int.lt_tmod_of_pos z h0
  have h2 := Int.tmod_lt_of_pos z h0
  omega
def at10 (L : List En) (c s : Int) : En := L.getD (pl10 L.length c s).toNat em10
def hit10 (L : List En) (c s : Int) : Bool := (at10 L c s).full && ((at10 L c s).c == c) && ((at10 L c s).s == s)
/-- what a cache answers, and what it holds behind that -/
def fd10 (L : List En) (h : Hp) (c s : Int) : Int × Int × Int := if hit10 L c s then ((at10 L c s).m, (at10 L c s).k, 0) else lk9 h c s
def cb10 (L : List En) (h : Hp) (c s : Int) : List En := if hit10 L c s = false ∧ (lk9 h c s).2.2 = 0 then L.set (pl10 L.length c s).toNat ⟨c, s, (lk9 h c s).1, (lk9 h c s).2.1, true⟩ else L
def nw10 (n : Nat) : List En := List.replicate n em10
/-- it holds what is found in that heap, and nothing else -/
def So10 (h : Hp) (L : List En) : Prop := ∀ x ∈ L, x.full = true → lk9 h x.c x.s = (x.m, x.k, 0)
theorem cb10_len (L : List En) (h : Hp) (c s : Int) : (cb10 L h c s).length = L.length := by
  unfold cb10; split <;> simp
theorem nw10_len (n : Nat) : (nw10 n).length = n := by unfold nw10; simp
theorem so_new10 (h : Hp) (n : Nat) : So10 h (nw10 n) := fun x hx hf => by
  rw [List.eq_of_mem_replicate hx] at hf
  cases hf
theorem at10_mem {L : List En} (hl : 1 ≤ L.length) (c s : Int) : at10 L c s ∈ L := by
  have h1 := pl10_in hl c s
  have h2 : (pl10 L.length c s).toNat < L.length := by omega
  unfold at10
  rw [List.getD_eq_getElem?_getD, List.getElem?_eq_getElem h2]
  exact List.getElem_mem h2
theorem hit10_is {L : List En} {c s : Int} : hit10 L c s = true ↔ (at10 L c s).full = true ∧ (at10 L c s).c = c ∧ (at10 L c s).s = s := by
  unfold hit10
  simp [and_assoc]
/-- as long as the heap is the same, it answers as look answers -/
theorem fd10_is {h : Hp} {L : List En} (hs : So10 h L) (hl : 1 ≤ L.length) (c s : Int) : fd10 L h c s = lk9 h c s := by
  unfold fd10
  by_cases q : hit10 L c s = true
  · rw [if_pos q]
    obtain ⟨q1, q2, q3⟩ := hit10_is.1 q
    have := hs _ (at10_mem hl c s) q1
    rw [q2, q3] at this
    exact this.symm
  · rw [if_neg q]
theorem so_cb10 {h : Hp} {L : List En} (hs : So10 h L) (c s : Int) : So10 h (cb10 L h c s) := by
  unfold cb10
  split
  · next q =>
    intro x hx hf
    rcases List.mem_or_eq_of_mem_set hx with h1 | h1
    · exact hs x h1 hf
    · rw [h1]
      show lk9 h c s = ((lk9 h c s).1, (lk9 h c s).2.1, 0)
      rw [← q.2]
  · exact hs
theorem cb10_at {h : Hp} {L : List En} (hl : 1 ≤ L.length) {c s : Int} (h1 : hit10 L c s = false) (h2 : (lk9 h c s).2.2 = 0) : at10 (cb10 L h c s) c s = ⟨c, s, (lk9 h c s).1, (lk9 h c s).2.1, true⟩ := by
  have p := pl10_in hl c s
  unfold at10
  rw [cb10_len]
  unfold cb10
  rw [if_pos ⟨h1, h2⟩, List.getD_eq_getElem?_getD, List.getElem?_set_self (by omega)]
  rfl
/-- the same asked again is a hit, if it is found -/
theorem hit_again10 {h : Hp} {L : List En} (hl : 1 ≤ L.length) {c s : Int} (h2 : (lk9 h c s).2.2 = 0) : hit10 (cb10 L h c s) c s = true := by
  cases q : hit10 L c s with
  | false => rw [hit10_is, cb10_at hl q h2]; exact ⟨rfl, rfl, rfl⟩
  | true =>
    have e : cb10 L h c s = L := by unfold cb10; rw [if_neg (by rw [q]; rintro ⟨f, _⟩; cases f)]
    rw [e]; exact q
/-- what isn't found is no hit, and leaves it as it was -/
theorem no_hit10 {h : Hp} {L : List En} (hs : So10 h L) (hl : 1 ≤ L.length) {c s : Int} (h2 : (lk9 h c s).2.2 ≠ 0) : hit10 L c s = false := by
  cases q : hit10 L c s with
  | false => rfl
  | true =>
    obtain ⟨q1, q2, q3⟩ := hit10_is.1 q
    have := hs _ (at10_mem hl c s) q1
    rw [q2, q3] at this
    rw [this] at h2
    exact absurd rfl h2
theorem cb_same10 {h : Hp} {L : List En} {c s : Int} (h2 : (lk9 h c s).2.2 ≠ 0) : cb10 L h c s = L := by
  unfold cb10; rw [if_neg (fun f => h2 f.2)]
/-- behind a Flush nothing is a hit -/
theorem flushed10 (n : Nat) (c s : Int) : hit10 (nw10 n) c s = false := by
  have e : at10 (nw10 n) c s = em10 := by
    unfold at10 nw10
    rw [List.getD_eq_getElem?_getD, List.getElem?_replicate]
    split <;> rfl
  unfold hit10
  rw [e]
  rfl
end Go.Proofs.Ytcahdhocilmoeaa
