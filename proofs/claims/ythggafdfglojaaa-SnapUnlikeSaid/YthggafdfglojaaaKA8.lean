/- Heaps as bytes, in plain mathematics: what is written of a heap with roots, what is read from bytes, and that what is written is read. Heaps as bytes, in plain mathematics: an object, all objects, a heap with roots that are written are read; what follows. Heaps as bytes, in plain mathematics: what the laws lean on: how many bytes there are, there and back, sums, unlike heaps. -/
import Derived.Test.YthggafdfglojaaaE
import Derived.Test.YthggafdfglojaaaQA
import Derived.Test.YthggafdfglojaaaL
import Derived.Test.YthggafdfglojaaaQZ
namespace Go.Proofs.Ythggafdfglojaaa
open Go.RowKit
/-- a number in four bytes, the lowest first -/
def n4 (n : Int) : List UInt8 := (by4 (n % 4294967296).toNat).map UInt8.ofNat
/-- how many, and each -/
def l4 (l : List Int) : List UInt8 := n4 l.length ++ l.flatMap n4
def oE (o : Ob) : List UInt8 :=
  n4 o.cls ++ (n4 o.kind ++ (n4 o.hash ++ (if o.kind = 0 then l4 o.slots else if o.kind = 1 then n4 o.text.size ++ o.text.data.toList else n4 o.bits ++ n4 (o.bits / 4294967296))))
def bodyE (h : Hp) (rs : List Int) : List UInt8 := [65, 78, 49] ++ (n4 h.cap ++ (n4 h.last ++ (n4 h.objs.length ++ (h.objs.flatMap oE ++ l4 rs))))
def mayR (h : Hp) (rs : List Int) : Bool := rs.all (hasB h.objs.length) && (mayB h && decide (rs.length ≤ 64))
/-- the sum of bytes -/
def su8 (l : List UInt8) : Nat := crM 0 (l.map UInt8.toNat)
def encE (h : Hp) (rs : List Int) : List UInt8 := if mayR h rs then bodyE h rs ++ n4 (su8 (bodyE h rs)) else []
/-- the number that bytes are, the lowest first -/
def plN8 : List UInt8 → Int
  | [] => 0
  | b :: l => wrap64 (plN8 l * 256 + b.toNat)
/-- bytes that are left, and whether they were not enough -/
structure Rd where
  s : List UInt8
  bad : Bool
def tkS (n : Int) (r : Rd) : List UInt8 := if r.bad = true ∨ n < 0 ∨ (r.s.length : Int) < n then [] else r.s.take n.toNat
def tkR (n : Int) (r : Rd) : Rd := if r.bad = true ∨ n < 0 ∨ (r.s.length : Int) < n then ⟨r.s, true⟩ else ⟨r.s.drop n.toNat, false⟩
def sgn (n : Int) : Int := if 2147483648 ≤ n then n - 4294967296 else n
def nmV (r : Rd) : Int := sgn (plN8 (tkS 4 r))
def nmR (r : Rd) : Rd := tkR 4 r
/-- so many numbers, as long as there are bytes -/
def nmsV : Nat → Rd → List Int
  | 0, _ => []
  | k + 1, r => if r.bad then [] else nmV r :: nmsV k (nmR r)
def nmsR : Nat → Rd → Rd
  | 0, r => r
  | k + 1, r => if r.bad then r else nmsR k (nmR r)
def lsI (r : Rd) : Rd := if nmV r < 0 then ⟨(nmR r).s, true⟩ else nmR r
def lsV (r : Rd) : List Int := nmsV (nmV r).toNat (lsI r)
def lsR (r : Rd) : Rd := nmsR (nmV r).toNat (lsI r)
/-- one object -/
def obK (r : Rd) : Int := nmV (nmR r)
def obT (r : Rd) : Rd := nmR (nmR (nmR r))
def obV (r : Rd) : Ob :=
  ⟨nmV r, obK r, if obK r = 0 then lsV (obT r) else [], if obK r = 1 then ⟨(tkS (nmV (obT r)) (nmR (obT r))).toArray⟩ else ⟨#[]⟩, if obK r = 2 then plN8 (tkS 8 (obT r)) else 0, nmV (nmR (nmR r))⟩
def obR (r : Rd) : Rd := if obK r = 0 then lsR (obT r) else if obK r = 1 then tkR (nmV (obT r)) (nmR (obT r)) else if obK r = 2 then tkR 8 (obT r) else obT r
def obsV : Nat → Rd → List Ob
  | 0, _ => []
  | k + 1, r => if r.bad then [] else obV r :: obsV k (obR r)
def obsR : Nat → Rd → Rd
  | 0, r => r
  | k + 1, r => if r.bad then r else obsR k (obR r)
/-- all of it -/
def dc0 (t : List UInt8) : Rd := tkR 3 ⟨t, false⟩
def dc1 (t : List UInt8) : Rd := nmR (dc0 t)
def dc2 (t : List UInt8) : Rd := nmR (dc1 t)
def dc3 (t : List UInt8) : Rd := nmR (dc2 t)
def dc4 (t : List UInt8) : Rd := obsR (nmV (dc2 t)).toNat (dc3 t)
def dcH (t : List UInt8) : Hp := ⟨obsV (nmV (dc2 t)).toNat (dc3 t), nmV (dc0 t), nmV (dc1 t)⟩
def dcL (t : List UInt8) : List Int := lsV (dc4 t)
def dcR (t : List UInt8) : Rd := lsR (dc4 t)
/-- what is wrong with bytes -/
def deE (s : List UInt8) : Int :=
  if s.length < 23 then 80
  else if n4 (su8 (s.take (s.length - 4))) ≠ s.drop (s.length - 4) then 81
  else if (dcR (s.take (s.length - 4))).bad = true ∨ encE (dcH (s.take (s.length - 4))) (dcL (s.take (s.length - 4))) ≠ s then 82 else 0
def deH (s : List UInt8) : Hp := if deE s = 0 then dcH (s.take (s.length - 4)) else ⟨[], 0, 0⟩
def deL (s : List UInt8) : List Int := if deE s = 0 then dcL (s.take (s.length - 4)) else []

theorem n4_len (n : Int) : (n4 n).length = 4 := by simp [n4, by4]
theorem wrap64_fit {x : Int} (h0 : -9223372036854775808 ≤ x) (h1 : x < 9223372036854775808) : wrap64 x = x := by unfold wrap64; omega
theorem byte_of (a : Nat) (h : a < 256) : (UInt8.ofNat a).toNat = a := by rw [UInt8.toNat_ofNat']; omega
theorem pl_cons (a : Nat) (h : a < 256) (l : List UInt8) (v : Nat) (hv : plN8 l = (v : Int)) (hb : v < 36028797018963968) : plN8 (UInt8.ofNat a :: l) = ((v * 256 + a : Nat) : Int) := by
  show wrap64 (plN8 l * 256 + ((UInt8.ofNat a).toNat : Int)) = _
  rw [hv, byte_of a h, wrap64_fit (by omega) (by omega)]; omega
theorem pl_last (a : Nat) (h : a < 256) (l : List UInt8) (v : Nat) (hv : plN8 l = (v : Int)) : plN8 (UInt8.ofNat a :: l) = wrap64 ((v * 256 + a : Nat) : Int) := by
  show wrap64 (plN8 l * 256 + ((UInt8.ofNat a).toNat : Int)) = _
  rw [hv, byte_of a h]
  congr 1
theorem by4_sum (m : Nat) (h : m < 4294967296) : ((m / 16777216 * 256 + m / 65536 % 256) * 256 + m / 256 % 256) * 256 + m % 256 = m := by omega
theorem pl_four (m : Nat) (hm : m < 4294967296) : plN8 ((by4 m).map UInt8.ofNat) = (m : Int) := by
  have e3 := pl_cons (m / 16777216) (by omega) [] 0 rfl (by omega)
  have e2 := pl_cons (m / 65536 % 256) (Nat.mod_lt _ (by decide)) _ _ e3 (by omega)
  have e1 := pl_cons (m / 256 % 256) (Nat.mod_lt _ (by decide)) _ _ e2 (by omega)
  have e0 := pl_cons (m % 256) (Nat.mod_lt _ (by decide)) _ _ e1 (by omega)
  have := by4_sum m hm
  rw [Nat.zero_mul, Nat.zero_add] at e0
  rw [this] at e0
  exact e0
theorem pl_n4 (n : Int) : plN8 (n4 n) = n % 4294967296 := by
  have h : (n % 4294967296).toNat < 4294967296 := by omega
  unfold n4
  rw [pl_four _ h]; omega
theorem sgn_mod {n : Int} (h0 : -2147483648 ≤ n) (h1 : n < 2147483648) : sgn (n % 4294967296) = n := by
  unfold sgn
  by_cases h : 0 ≤ n
  · have e : n % 4294967296 = n := Int.emod_eq_of_lt h (by omega)
    rw [e, if_neg (by omega)]
  · have e : n % 4294967296 = n + 4294967296 := by omega
    rw [e, if_pos (by omega)]; omega
theorem tk_app (a b : List UInt8) : tkS a.length ⟨a ++ b, false⟩ = a ∧ tkR a.length ⟨a ++ b, false⟩ = ⟨b, false⟩ := by
  have h : ¬ ((⟨a ++ b, false⟩ : Rd).bad = true ∨ (a.length : Int) < 0 ∨ (((⟨a ++ b, false⟩ : Rd).s.length : Nat) : Int) < a.length) := by
    simp only [List.length_append, Bool.false_eq_true, false_or]; omega
  unfold tkS tkR
  rw [if_neg h, if_neg h]
  simp
theorem nm_app {n : Int} (h0 : -2147483648 ≤ n) (h1 : n < 2147483648) (b : List UInt8) : nmV ⟨n4 n ++ b, false⟩ = n ∧ nmR ⟨n4 n ++ b, false⟩ = ⟨b, false⟩ := by
  have h := tk_app (n4 n) b
  rw [n4_len] at h
  unfold nmV nmR
  have e : ((4 : Nat) : Int) = 4 := rfl
  rw [e] at h
  rw [h.1, h.2, pl_n4, sgn_mod h0 h1]
  exact ⟨rfl, rfl⟩
def Sm (n : Int) : Prop := -2147483648 ≤ n ∧ n < 2147483648
theorem nms_app (l : List Int) (b : List UInt8) (hl : ∀ n ∈ l, Sm n) : nmsV l.length ⟨l.flatMap n4 ++ b, false⟩ = l ∧ nmsR l.length ⟨l.flatMap n4 ++ b, false⟩ = ⟨b, false⟩ := by
  induction l with
  | nil => exact ⟨rfl, rfl⟩
  | cons n l ih =>
    have h := nm_app (hl n (by simp)).1 (hl n (by simp)).2 (l.flatMap n4 ++ b)
    obtain ⟨i1, i2⟩ := ih fun m hm => hl m (by simp [hm])
    rw [List.flatMap_cons, List.append_assoc]
    show (if (false : Bool) = true then [] else nmV ⟨n4 n ++ (l.flatMap n4 ++ b), false⟩ :: nmsV l.length (nmR ⟨n4 n ++ (l.flatMap n4 ++ b), false⟩)) = n :: l ∧
      (if (false : Bool) = true then _ else nmsR l.length (nmR ⟨n4 n ++ (l.flatMap n4 ++ b), false⟩)) = _
    rw [h.1, h.2, i1, i2]
    exact ⟨rfl, rfl⟩
theorem ls_app (l : List Int) (b : List UInt8) (hl : ∀ n ∈ l, Sm n) (hn : l.length < 2147483648) : lsV ⟨l4 l ++ b, false⟩ = l ∧ lsR ⟨l4 l ++ b, false⟩ = ⟨b, false⟩ := by
  have h := nm_app (n := (l.length : Int)) (by omega) (by omega) (l.flatMap n4 ++ b)
  unfold lsV lsR lsI l4
  rw [List.append_assoc, h.1, h.2, if_neg (by omega)]
  exact nms_app l b hl
end Go.Proofs.Ythggafdfglojaaa
namespace Go.Proofs.Ythggafdfglojaaa
open Go.RowKit
theorem pl_cons' (a : Nat) (h : a < 256) (l : List UInt8) (v : Nat) (hv : plN8 l = (v : Int)) (hb : v < 36028797018963968) : plN8 (UInt8.ofNat a :: l) = ((v * 256 + a : Nat) : Int) := pl_cons a h l v hv hb
theorem by8_sum (m k : Nat) (_h : m < 4294967296) : (((k * 256 + m / 16777216) * 256 + m / 65536 % 256) * 256 + m / 256 % 256) * 256 + m % 256 = k * 4294967296 + m := by omega
theorem pl_eight (m k : Nat) (hm : m < 4294967296) (hk : k < 4294967296) : plN8 ((by4 m).map UInt8.ofNat ++ (by4 k).map UInt8.ofNat) = wrap64 ((k * 4294967296 + m : Nat) : Int) := by
  have e3 := pl_cons (m / 16777216) (by omega) _ _ (pl_four k hk) (by omega)
  have e2 := pl_cons (m / 65536 % 256) (Nat.mod_lt _ (by decide)) _ _ e3 (by omega)
  have e1 := pl_cons (m / 256 % 256) (Nat.mod_lt _ (by decide)) _ _ e2 (by omega)
  have e0 := pl_last (m % 256) (Nat.mod_lt _ (by decide)) _ _ e1
  rw [by8_sum m k hm] at e0
  exact e0
/-- a number that the machine has -/
def Wd (n : Int) : Prop := -9223372036854775808 ≤ n ∧ n < 9223372036854775808
theorem pl_bits {n : Int} (h : Wd n) : plN8 (n4 n ++ n4 (n / 4294967296)) = n := by
  obtain ⟨h0, h1⟩ := h
  have a1 : (n % 4294967296).toNat < 4294967296 := by omega
  have a2 : (n / 4294967296 % 4294967296).toNat < 4294967296 := by omega
  unfold n4
  rw [pl_eight _ _ a1 a2]
  unfold wrap64
  omega
theorem ref_sm {n : Nat} {v : Int} (h : refB n v = true) : Sm v := by
  have := (refB_no h).1
  have := atB_iff.1 this
  unfold Sm; omega
theorem has_sm {n : Nat} {v : Int} (h : hasB n v = true) : Sm v := by
  unfold hasB at h
  rw [Bool.or_eq_true] at h
  rcases h with h | h
  · have := nB_iff.1 h; unfold Sm; omega
  · exact ref_sm h
theorem ha_sm {v : Int} (h : haB v = true) : Sm v := by
  unfold haB at h
  rw [decide_eq_true_eq] at h
  unfold Sm; omega
theorem toList_nil {s : ByteArray} (h : s.toList = []) : s = ⟨#[]⟩ := by
  rw [ByteArray.toList_eq] at h
  cases s with
  | mk d => simp_all
/-- what is in an object of each kind -/
theorem kind_parts {o : Ob} (h : kiB o = true) : (o.kind = 0 ∧ o.slots.length ≤ 64 ∧ o.text = ⟨#[]⟩ ∧ o.bits = 0) ∨ (o.kind = 1 ∧ o.slots = [] ∧ o.text.size ≤ 64 ∧ o.bits = 0) ∨ (o.kind = 2 ∧ o.slots = [] ∧ o.text = ⟨#[]⟩) := by
  unfold kiB at h
  split at h
  · rename_i e
    simp only [Bool.and_eq_true, decide_eq_true_eq, beq_iff_eq] at h
    exact .inl ⟨e, by omega, toList_nil h.1.2, h.2⟩
  · split at h
    · rename_i e
      simp only [Bool.and_eq_true, decide_eq_true_eq, beq_iff_eq] at h
      exact .inr (.inl ⟨e, h.1.1, by omega, h.2⟩)
    · split at h
      · rename_i e
        simp only [Bool.and_eq_true, decide_eq_true_eq] at h
        exact .inr (.inr ⟨e, h.1.1, toList_nil h.1.2⟩)
      · cases h
theorem ob_parts {n : Nat} {o : Ob} (h : obB n o = true) : Sm o.cls ∧ Sm o.hash ∧ kiB o = true ∧ ∀ v ∈ o.slots, Sm v := by
  unfold obB at h
  simp only [Bool.and_eq_true, List.all_eq_true] at h
  exact ⟨ref_sm h.1.1.1, ha_sm h.1.1.2, h.1.2, fun v hv => has_sm (h.2 v hv)⟩
theorem ob_app {n : Nat} {o : Ob} (h : obB n o = true) (hw : Wd o.bits) (b : List UInt8) : obV ⟨oE o ++ b, false⟩ = o ∧ obR ⟨oE o ++ b, false⟩ = ⟨b, false⟩ := by
  obtain ⟨h1, h2, h3, h4⟩ := ob_parts h
  have hk : Sm o.kind := by
    rcases kind_parts h3 with h | h | h <;> (unfold Sm; omega)
  obtain ⟨T, hT⟩ : ∃ T, T = (if o.kind = 0 then l4 o.slots else if o.kind = 1 then n4 o.text.size ++ o.text.data.toList else n4 o.bits ++ n4 (o.bits / 4294967296)) := ⟨_, rfl⟩
  have e0 : oE o ++ b = n4 o.cls ++ (n4 o.kind ++ (n4 o.hash ++ (T ++ b))) := by unfold oE; rw [← hT]; simp only [List.append_assoc]
  have a1 := nm_app h1.1 h1.2 (n4 o.kind ++ (n4 o.hash ++ (T ++ b)))
  have a2 := nm_app hk.1 hk.2 (n4 o.hash ++ (T ++ b))
  have a3 := nm_app h2.1 h2.2 (T ++ b)
  rw [e0]
  have k1 : obK ⟨n4 o.cls ++ (n4 o.kind ++ (n4 o.hash ++ (T ++ b))), false⟩ = o.kind := by unfold obK; rw [a1.2, a2.1]
  have k2 : obT ⟨n4 o.cls ++ (n4 o.kind ++ (n4 o.hash ++ (T ++ b))), false⟩ = ⟨T ++ b, false⟩ := by unfold obT; rw [a1.2, a2.2, a3.2]
  unfold obV obR
  rw [k1, k2, a1.1, a1.2, a2.2, a3.1]
  rcases kind_parts h3 with ⟨e, p1, p2, p3⟩ | ⟨e, p1, p2, p3⟩ | ⟨e, p1, p2⟩
  · rw [if_pos e] at hT
    have hl := ls_app o.slots b h4 (by omega)
    rw [hT, hl.1, hl.2]
    simp only [e, if_pos]
    refine ⟨?_, trivial⟩
    cases o; simp_all
  · have hT' : T = n4 o.text.size ++ o.text.data.toList := by rw [hT, if_neg (by omega), if_pos e]
    have ht := nm_app (n := (o.text.size : Int)) (by omega) (by omega) (o.text.data.toList ++ b)
    have hq := tk_app o.text.data.toList b
    have hs : o.text.data.toList.length = o.text.size := by rw [Array.length_toList]; rfl
    rw [hs] at hq
    rw [hT', List.append_assoc, ht.1, ht.2, hq.1, hq.2]
    have n0 : ¬ o.kind = 0 := by omega
    have n2 : ¬ o.kind = 2 := by omega
    simp only [if_pos e, if_neg n0, if_neg n2]
    refine ⟨?_, trivial⟩
    cases o with
    | mk c k sl t bi ha => cases t; simp_all
  · have hT' : T = n4 o.bits ++ n4 (o.bits / 4294967296) := by rw [hT, if_neg (by omega), if_neg (by omega)]
    have hq := tk_app (n4 o.bits ++ n4 (o.bits / 4294967296)) b
    have hs : (n4 o.bits ++ n4 (o.bits / 4294967296)).length = 8 := by rw [List.length_append, n4_len, n4_len]
    rw [hs] at hq
    have e8 : ((8 : Nat) : Int) = 8 := rfl
    rw [e8] at hq
    rw [hT', hq.1, hq.2, pl_bits hw]
    have n0 : ¬ o.kind = 0 := by omega
    have n1 : ¬ o.kind = 1 := by omega
    simp only [if_pos e, if_neg n0, if_neg n1]
    refine ⟨?_, trivial⟩
    cases o; simp_all
theorem obs_app (n : Nat) (os : List Ob) (b : List UInt8) (ho : ∀ o ∈ os, obB n o = true ∧ Wd o.bits) : obsV os.length ⟨os.flatMap oE ++ b, false⟩ = os ∧ obsR os.length ⟨os.flatMap oE ++ b, false⟩ = ⟨b, false⟩ := by
  induction os with
  | nil => exact ⟨rfl, rfl⟩
  | cons o os ih =>
    have h := ob_app (ho o (by simp)).1 (ho o (by simp)).2 (os.flatMap oE ++ b)
    obtain ⟨i1, i2⟩ := ih fun m hm => ho m (by simp [hm])
    rw [List.flatMap_cons, List.append_assoc]
    show (if (false : Bool) = true then [] else obV ⟨oE o ++ (os.flatMap oE ++ b), false⟩ :: obsV os.length (obR ⟨oE o ++ (os.flatMap oE ++ b), false⟩)) = o :: os ∧
      (if (false : Bool) = true then _ else obsR os.length (obR ⟨oE o ++ (os.flatMap oE ++ b), false⟩)) = _
    rw [h.1, h.2, i1, i2]
    exact ⟨rfl, rfl⟩
theorem may_parts {h : Hp} {rs : List Int} (hm : mayR h rs = true) : (1 ≤ h.cap ∧ h.cap ≤ 256) ∧ Sm h.last ∧ h.objs.length ≤ 256 ∧ (∀ o ∈ h.objs, obB h.objs.length o = true) ∧ (∀ v ∈ rs, Sm v) ∧ rs.length ≤ 64 := by
  unfold mayR at hm
  simp only [Bool.and_eq_true, decide_eq_true_eq, List.all_eq_true] at hm
  obtain ⟨h1, h2, h3⟩ := hm
  have h4 := h2
  unfold mayB at h2
  simp only [Bool.and_eq_true, decide_eq_true_eq, List.all_eq_true] at h2
  exact ⟨⟨h2.1.1.1, h2.1.1.2.1⟩, ha_sm h2.1.2, may_len h4, may_all h4, fun v hv => has_sm (h1 v hv), h3⟩
/-- the machine has each object's bits -/
def Hp.Wd (h : Hp) : Prop := ∀ o ∈ h.objs, Go.Proofs.Ythggafdfglojaaa.Wd o.bits
/-- what is written is read -/
theorem dc_body {h : Hp} {rs : List Int} (hm : mayR h rs = true) (hw : h.Wd) : dcH (bodyE h rs) = h ∧ dcL (bodyE h rs) = rs ∧ dcR (bodyE h rs) = ⟨[], false⟩ := by
  obtain ⟨⟨c0, c1⟩, hl, hn, ho, hr, hrn⟩ := may_parts hm
  have a0 := tk_app [65, 78, 49] (n4 h.cap ++ (n4 h.last ++ (n4 h.objs.length ++ (h.objs.flatMap oE ++ l4 rs))))
  have a1 := nm_app (n := h.cap) (by omega) (by omega) (n4 h.last ++ (n4 h.objs.length ++ (h.objs.flatMap oE ++ l4 rs)))
  have a2 := nm_app hl.1 hl.2 (n4 h.objs.length ++ (h.objs.flatMap oE ++ l4 rs))
  have a3 := nm_app (n := (h.objs.length : Int)) (by omega) (by omega) (h.objs.flatMap oE ++ l4 rs)
  have a4 := obs_app h.objs.length h.objs (l4 rs) fun o hoo => ⟨ho o hoo, hw o hoo⟩
  have a5 := ls_app rs [] hr (by omega)
  rw [List.append_nil] at a5
  have e3 : (([65, 78, 49] : List UInt8).length : Int) = 3 := rfl
  rw [e3] at a0
  have d0 : dc0 (bodyE h rs) = ⟨n4 h.cap ++ (n4 h.last ++ (n4 h.objs.length ++ (h.objs.flatMap oE ++ l4 rs))), false⟩ := a0.2
  have d1 : dc1 (bodyE h rs) = ⟨n4 h.last ++ (n4 h.objs.length ++ (h.objs.flatMap oE ++ l4 rs)), false⟩ := by unfold dc1; rw [d0, a1.2]
  have d2 : dc2 (bodyE h rs) = ⟨n4 h.objs.length ++ (h.objs.flatMap oE ++ l4 rs), false⟩ := by unfold dc2; rw [d1, a2.2]
  have d3 : dc3 (bodyE h rs) = ⟨h.objs.flatMap oE ++ l4 rs, false⟩ := by unfold dc3; rw [d2, a3.2]
  have d4 : dc4 (bodyE h rs) = ⟨l4 rs, false⟩ := by
    unfold dc4; rw [d3, d2, a3.1, Int.toNat_natCast, a4.2]
  refine ⟨?_, ?_, ?_⟩
  · unfold dcH; rw [d3, d2, d1, d0, a3.1, a2.1, a1.1, Int.toNat_natCast, a4.1]
  · unfold dcL; rw [d4, a5.1]
  · unfold dcR; rw [d4, a5.2]
theorem enc_yes {h : Hp} {rs : List Int} (hm : mayR h rs = true) : encE h rs = bodyE h rs ++ n4 (su8 (bodyE h rs)) := by unfold encE; rw [if_pos hm]
theorem enc_no {h : Hp} {rs : List Int} (hm : ¬ mayR h rs = true) : encE h rs = [] := by unfold encE; rw [if_neg hm]
theorem enc_ne {h : Hp} {rs : List Int} (hm : mayR h rs = true) : encE h rs ≠ [] := by
  rw [enc_yes hm]
  intro e
  have := congrArg List.length e
  rw [List.length_append, n4_len] at this
  simp at this
theorem enc_take {h : Hp} {rs : List Int} (hm : mayR h rs = true) : (encE h rs).take ((encE h rs).length - 4) = bodyE h rs ∧ (encE h rs).drop ((encE h rs).length - 4) = n4 (su8 (bodyE h rs)) := by
  rw [enc_yes hm, List.length_append, n4_len, Nat.add_sub_cancel]
  exact ⟨List.take_left, List.drop_left⟩
/-- unlike heaps, with roots, are written unlike -/
theorem enc_inj {h g : Hp} {rs qs : List Int} (hm : mayR h rs = true) (hw : h.Wd) (gw : g.Wd) (e : encE h rs = encE g qs) : h = g ∧ rs = qs := by
  have gm : mayR g qs = true := by
    by_cases gm : mayR g qs = true
    · exact gm
    · rw [enc_no gm] at e; exact absurd e (enc_ne hm)
  have b : bodyE h rs = bodyE g qs := by rw [← (enc_take hm).1, ← (enc_take gm).1, e]
  obtain ⟨h1, h2, -⟩ := dc_body hm hw
  obtain ⟨g1, g2, -⟩ := dc_body gm gw
  rw [b] at h1 h2
  exact ⟨h1.symm.trans g1, h2.symm.trans g2⟩
end Go.Proofs.Ythggafdfglojaaa
namespace Go.Proofs.Ythggafdfglojaaa
open Go.RowKit
/-- an object's bytes, counted -/
def szE (o : Ob) : Nat := 16 + 4 * o.slots.length + o.text.size + (if o.kind = 2 then 4 else 0)
theorem n8_flat (l : List Int) : (l.flatMap n4).length = 4 * l.length := by
  induction l with
  | nil => rfl
  | cons n l ih => rw [List.flatMap_cons, List.length_append, n4_len, ih, List.length_cons]; omega
theorem n8_l4 (l : List Int) : (l4 l).length = 4 + 4 * l.length := by unfold l4; rw [List.length_append, n4_len, n8_flat]
theorem oE_size {n : Nat} {o : Ob} (h : obB n o = true) : (oE o).length = szE o := by
  obtain ⟨-, -, hk, -⟩ := ob_parts h
  unfold oE szE
  rw [List.length_append, List.length_append, List.length_append, n4_len, n4_len, n4_len]
  rcases kind_parts hk with ⟨e, h1, h2, -⟩ | ⟨e, h2, h1, -⟩ | ⟨e, h1, h2⟩
  · rw [if_pos e, n8_l4, h2, if_neg (by omega)]
    have : (⟨#[]⟩ : ByteArray).size = 0 := rfl
    omega
  · rw [if_neg (by omega), if_pos e, List.length_append, n4_len, Array.length_toList, h2, if_neg (by omega)]
    have : o.text.data.size = o.text.size := rfl
    have e0 : ([] : List Int).length = 0 := rfl
    omega
  · rw [if_neg (by omega), if_neg (by omega), List.length_append, n4_len, n4_len, h1, h2, if_pos e]
    have : (⟨#[]⟩ : ByteArray).size = 0 := rfl
    have e0 : ([] : List Int).length = 0 := rfl
    omega
/-- all objects' bytes, counted -/
def szS (os : List Ob) : Nat := (os.map szE).sum
theorem os_size {n : Nat} (os : List Ob) (h : ∀ o ∈ os, obB n o = true) : (os.flatMap oE).length = szS os := by
  induction os with
  | nil => rfl
  | cons o os ih =>
    rw [List.flatMap_cons, List.length_append, oE_size (h o (by simp)), ih fun p hp => h p (by simp [hp])]
    simp [szS]
theorem szS_step (os : List Ob) (k : Nat) (h : k < os.length) : szS (os.take (k + 1)) = szS (os.take k) + szE os[k] := by
  unfold szS
  rw [List.take_succ_eq_append_getElem h, List.map_append, List.sum_append]; simp
theorem body_size {h : Hp} {rs : List Int} (hm : mayR h rs = true) : (bodyE h rs).length = 19 + 4 * rs.length + szS h.objs := by
  obtain ⟨-, -, -, ho, -, -⟩ := may_parts hm
  unfold bodyE
  rw [List.length_append, List.length_append, List.length_append, List.length_append, List.length_append, n4_len, n4_len, n4_len, n8_l4, os_size h.objs ho]
  have : ([65, 78, 49] : List UInt8).length = 3 := rfl
  omega
theorem enc_size {h : Hp} {rs : List Int} (hm : mayR h rs = true) : (encE h rs).length = 23 + 4 * rs.length + szS h.objs := by
  rw [enc_yes hm, List.length_append, n4_len, body_size hm]; omega
/-- there and back -/
theorem enc_dec {h : Hp} {rs : List Int} (hm : mayR h rs = true) (hw : h.Wd) : deE (encE h rs) = 0 ∧ deH (encE h rs) = h ∧ deL (encE h rs) = rs := by
  obtain ⟨t1, t2⟩ := enc_take hm
  obtain ⟨d1, d2, d3⟩ := dc_body hm hw
  have e0 : deE (encE h rs) = 0 := by
    unfold deE
    rw [if_neg (by rw [enc_size hm]; omega), t1, t2, if_neg (by simp), if_neg]
    rw [d1, d2, d3]
    simp
  refine ⟨e0, ?_, ?_⟩
  · unfold deH; rw [if_pos e0, t1, d1]
  · unfold deL; rw [if_pos e0, t1, d2]
theorem dec_cut {l : List UInt8} (h : deE l = 0 ∨ deE l = 82) : 23 ≤ l.length ∧ n4 (su8 (l.take (l.length - 4))) = l.drop (l.length - 4) := by
  unfold deE at h
  by_cases h1 : l.length < 23
  · rw [if_pos h1] at h; omega
  · rw [if_neg h1] at h
    by_cases h2 : n4 (su8 (l.take (l.length - 4))) ≠ l.drop (l.length - 4)
    · rw [if_pos h2] at h; omega
    · exact ⟨by omega, Classical.not_not.1 h2⟩
theorem dec_enc {l : List UInt8} (h : deE l = 0) : encE (deH l) (deL l) = l ∧ mayR (deH l) (deL l) = true := by
  have hl := (dec_cut (.inl h)).1
  have h2 : encE (deH l) (deL l) = l := by
    unfold deH deL
    rw [if_pos h, if_pos h]
    unfold deE at h
    split at h
    · omega
    · split at h
      · omega
      · split at h
        · omega
        · rename_i h3
          simp only [not_or, ne_eq, Classical.not_not] at h3
          exact h3.2
  refine ⟨h2, ?_⟩
  by_cases hm : mayR (deH l) (deL l) = true
  · exact hm
  · rw [enc_no hm] at h2
    rw [← h2] at hl
    simp at hl
theorem dec_sum {l : List UInt8} (hl : 23 ≤ l.length) (h : n4 (su8 (l.take (l.length - 4))) ≠ l.drop (l.length - 4)) : deE l = 81 := by
  unfold deE
  rw [if_neg (by omega), if_pos h]
theorem dec_kinds (l : List UInt8) : deE l = 0 ∨ deE l = 80 ∨ deE l = 81 ∨ deE l = 82 := by
  unfold deE
  split
  · exact .inr (.inl rfl)
  · split
    · exact .inr (.inr (.inl rfl))
    · split
      · exact .inr (.inr (.inr rfl))
      · exact .inl rfl
theorem n4_nat {a b : Nat} (ha : a < 4294967296) (hb : b < 4294967296) (e : n4 (a : Int) = n4 (b : Int)) : a = b := by
  have h1 := pl_n4 (a : Int)
  have h2 := pl_n4 (b : Int)
  rw [e] at h1
  omega
theorem su8_lt (l : List UInt8) : su8 l < 4294967296 := crM_lt (fun c hc => by obtain ⟨b, _, rfl⟩ := List.mem_map.1 hc; exact b.toNat_lt)
/-- a byte that is other is seen by the sum -/
theorem su8_sees (a c : List UInt8) (x y : UInt8) (h : x ≠ y) : su8 (a ++ x :: c) ≠ su8 (a ++ y :: c) := by
  intro e
  have hb : ∀ l : List UInt8, ∀ z ∈ l.map UInt8.toNat, z < 256 := fun l z hz => by obtain ⟨b, _, rfl⟩ := List.mem_map.1 hz; exact b.toNat_lt
  unfold su8 crM at e
  rw [List.map_append, List.map_append, List.map_cons, List.map_cons] at e
  have h1 : cu (mx - 0) (a.map UInt8.toNat ++ x.toNat :: c.map UInt8.toNat) < 4294967296 := by
    have := hb (a ++ x :: c)
    rw [List.map_append, List.map_cons] at this
    exact cu_lt mx_lt this
  have h2 : cu (mx - 0) (a.map UInt8.toNat ++ y.toNat :: c.map UInt8.toNat) < 4294967296 := by
    have := hb (a ++ y :: c)
    rw [List.map_append, List.map_cons] at this
    exact cu_lt mx_lt this
  have e1 := congrArg (fun z => mx - z) e
  simp only [turn_turn h1, turn_turn h2] at e1
  exact h (UInt8.toNat_inj.1 (cu_sees mx_lt (hb a) (hb c) x.toNat_lt y.toNat_lt e1))
/-- a byte ahead of the sum turned: the sum tells -/
theorem turned_sum {h : Hp} {rs : List Int} (hm : mayR h rs = true) (a c : List UInt8) (x y : UInt8) (hne : x ≠ y) (e : bodyE h rs = a ++ x :: c) :
    deE (a ++ y :: c ++ n4 (su8 (bodyE h rs))) = 81 := by
  have hb := body_size hm
  have hl : (a ++ y :: c).length = (bodyE h rs).length := by rw [e]; simp
  have h4 : (a ++ y :: c ++ n4 (su8 (bodyE h rs))).length - 4 = (a ++ y :: c).length := by rw [List.length_append, n4_len]; omega
  refine dec_sum (by rw [List.length_append, n4_len, hl]; omega) ?_
  rw [h4, List.take_left, List.drop_left]
  intro g
  have := n4_nat (su8_lt _) (su8_lt _) g
  rw [e] at this
  exact su8_sees a c x y hne this.symm
/-- with the sum put right it is another heap, or none -/
theorem turned_other {h : Hp} {rs : List Int} (hm : mayR h rs = true) (u : List UInt8) (hu : u ≠ bodyE h rs) (hl : 19 ≤ u.length) :
    deE (u ++ n4 (su8 u)) = 82 ∨ (deE (u ++ n4 (su8 u)) = 0 ∧ ¬ (deH (u ++ n4 (su8 u)) = h ∧ deL (u ++ n4 (su8 u)) = rs)) := by
  have h4 : (u ++ n4 (su8 u)).length - 4 = u.length := by rw [List.length_append, n4_len]; omega
  rcases dec_kinds (u ++ n4 (su8 u)) with h0 | h0 | h0 | h0
  · refine .inr ⟨h0, fun ⟨g1, g2⟩ => ?_⟩
    have := (dec_enc h0).1
    rw [g1, g2, enc_yes hm] at this
    have h5 := congrArg (fun l => l.take (l.length - 4)) this
    simp only [List.length_append, n4_len, Nat.add_sub_cancel, List.take_left] at h5
    exact hu h5.symm
  · exfalso
    unfold deE at h0
    rw [if_neg (by rw [List.length_append, n4_len]; omega)] at h0
    split at h0
    · omega
    · split at h0 <;> omega
  · exfalso
    unfold deE at h0
    rw [if_neg (by rw [List.length_append, n4_len]; omega), h4, List.take_left, List.drop_left, if_neg (by simp)] at h0
    split at h0 <;> omega
  · exact .inl h0
end Go.Proofs.Ythggafdfglojaaa
