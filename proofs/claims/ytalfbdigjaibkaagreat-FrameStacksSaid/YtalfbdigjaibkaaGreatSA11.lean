/- Instructions, in plain mathematics: which may be, their bytes, their lines, and what is read of these. -/
import Derived.Test.YtalfbdigjaibkaaGreatST
namespace Go.Proofs.YtalfbdigjaibkaaGreat
open Go.RowKit
/-- an instruction -/
structure In where
  op : Int
  a : Int
  deriving DecidableEq
/-- the words of Ops -/
def wds11 : List (List UInt8) := [[115, 101, 108, 102], [108, 105, 116], [116, 101, 109, 112], [102, 105, 101, 108, 100], [115, 101, 116, 116, 101, 109, 112], [115, 101, 116, 102, 105, 101, 108, 100], [112, 111, 112], [100, 117, 112], [115, 101, 110, 100], [115, 117, 112, 101, 114], [106, 117, 109, 112], [105, 102, 116, 114, 117, 101], [105, 102, 102, 97, 108, 115, 101], [98, 108, 111, 99, 107], [114, 101, 116, 117, 114, 110], [104, 111, 109, 101], [111, 117, 116, 101, 114], [115, 101, 116, 111, 117, 116, 101, 114], [116, 104, 105, 115]]
def wd11 (op : Int) : List UInt8 := wds11.getD op.toNat []
/-- has it no Arg? -/
def no11 (op : Int) : Bool := decide (op = 0) || (decide (op = 6) || (decide (op = 7) || (decide (op = 14) || (decide (op = 15) || decide (op = 18)))))
def may11 (x : In) : Bool := decide (0 ≤ x.op) && (decide (x.op ≤ 18) && (decide (0 ≤ x.a) && (decide (x.a ≤ 255) && (decide (x.a = 0) || !no11 x.op))))
def all11 (l : List In) : Bool := l.all may11 && decide (l.length ≤ 32)
/-- digits of a number below 1000 -/
def dg11 (n : Int) : List UInt8 := if n < 10 then [UInt8.ofNat (48 + n.toNat)] else if n < 100 then [UInt8.ofNat (48 + n.toNat / 10), UInt8.ofNat (48 + n.toNat % 10)] else [UInt8.ofNat (48 + n.toNat / 100), UInt8.ofNat (48 + n.toNat / 10 % 10), UInt8.ofNat (48 + n.toNat % 10)]
/-- a line -/
def ln11 (x : In) : List UInt8 := if no11 x.op then wd11 x.op else if x.op = 8 ∨ x.op = 9 then wd11 x.op ++ [32] ++ dg11 (x.a / 8) ++ [32] ++ dg11 (x.a % 8) else wd11 x.op ++ [32] ++ dg11 x.a
def b211 (x : In) : List UInt8 := [UInt8.ofNat x.op.toNat, UInt8.ofNat x.a.toNat]
def pk11 (l : List In) : List UInt8 := l.flatMap b211
def pr11 (l : List In) : List UInt8 := l.flatMap fun x => ln11 x ++ [10]
/-- pairs of bytes -/
def us11 : List UInt8 → List In
  | a :: b :: l => ⟨a.toNat, b.toNat⟩ :: us11 l
  | _ => []
/-- what is packed, printed, unpacked: bytes, instructions, or none -/
def Pk11 (l : List In) : List UInt8 × Int := if all11 l then (pk11 l, 0) else ([], 110)
def Pr11 (l : List In) : List UInt8 × Int := if all11 l then (pr11 l, 0) else ([], 110)
def Up11 (s : List UInt8) : List In × Int := if all11 (us11 s) && decide (pk11 (us11 s) = s) then (us11 s, 0) else ([], 110)
/-- all instructions that may be -/
def args11 : List Int := (List.range 256).map Int.ofNat
def ins11 : List In := (List.range 19).flatMap fun (op : Nat) => if no11 (op : Int) then [⟨(op : Int), 0⟩] else args11.map fun a => ⟨(op : Int), a⟩
/-- a line read -/
def rd11 (s : List UInt8) : Option In := ins11.find? fun x => ln11 x == s
/-- lines: what lies ahead of each byte 10, and what is left -/
def spl11 : List UInt8 → List (List UInt8) × List UInt8
  | [] => ([], [])
  | b :: s => if b = 10 then ([] :: (spl11 s).1, (spl11 s).2) else match (spl11 s).1 with
    | [] => ([], b :: (spl11 s).2)
    | t :: r => ((b :: t) :: r, (spl11 s).2)
def Pa11 (s : List UInt8) : List In × Int := match (spl11 s).1.mapM rd11 with
  | some l => if l.length ≤ 32 ∧ (spl11 s).2 = [] then (l, 0) else ([], 111)
  | none => ([], 111)
/-! What a line tells -/
def num11 (s : List UInt8) : Int := s.foldl (fun n b => 10 * n + ((b.toNat : Int) - 48)) 0
def dec11 (s : List UInt8) : In :=
  let w := s.takeWhile (· ≠ 32)
  let r := (s.dropWhile (· ≠ 32)).drop 1
  let op : Int := wds11.idxOf w
  if op = 8 ∨ op = 9 then ⟨op, 8 * num11 (r.takeWhile (· ≠ 32)) + num11 ((r.dropWhile (· ≠ 32)).drop 1)⟩ else ⟨op, num11 r⟩
theorem ins_dec11 : (ins11.all fun x => decide (dec11 (ln11 x) = x)) = true := by decide +kernel
theorem ins_ten11 : (ins11.all fun x => (ln11 x).all fun b => decide (b ≠ 10)) = true := by decide +kernel
theorem mem_ins11 {x : In} : x ∈ ins11 ↔ may11 x = true := by
  unfold ins11
  rw [List.mem_flatMap]
  unfold may11
  constructor
  · rintro ⟨op, hop, hx⟩
    have ho : op < 19 := List.mem_range.1 hop
    split at hx
    · next hn =>
      rw [List.mem_singleton] at hx
      subst hx
      simp
      omega
    · next hn =>
      obtain ⟨a, ha, rfl⟩ := List.mem_map.1 hx
      unfold args11 at ha
      obtain ⟨k, hk, rfl⟩ := List.mem_map.1 ha
      have := List.mem_range.1 hk
      simp [hn]
      omega
  · intro h
    simp only [Bool.and_eq_true, Bool.or_eq_true, decide_eq_true_eq, Bool.not_eq_true'] at h
    obtain ⟨h1, h2, h3, h4, h5⟩ := h
    obtain ⟨op, a⟩ := x
    simp only at h1 h2 h3 h4 h5
    refine ⟨op.toNat, List.mem_range.2 (by omega), ?_⟩
    have e : ((op.toNat : Nat) : Int) = op := by omega
    rw [e]
    split
    · next hn =>
      rcases h5 with h5 | h5
      · rw [h5]; simp
      · rw [hn] at h5; cases h5
    · exact List.mem_map.2 ⟨a, List.mem_map.2 ⟨a.toNat, List.mem_range.2 (by omega), by show ((a.toNat : Nat) : Int) = a; omega⟩, rfl⟩
theorem dec_ln11 {x : In} (h : may11 x = true) : dec11 (ln11 x) = x := of_decide_eq_true (List.all_eq_true.1 ins_dec11 x (mem_ins11.2 h))
/-- unlike instructions have unlike lines -/
theorem ln_inj11 {x y : In} (h : may11 x = true) (k : may11 y = true) (e : ln11 x = ln11 y) : x = y := by rw [← dec_ln11 h, ← dec_ln11 k, e]
theorem ln_ten11 {x : In} (h : may11 x = true) : ∀ b ∈ ln11 x, b ≠ 10 := fun b hb => of_decide_eq_true (List.all_eq_true.1 (List.all_eq_true.1 ins_ten11 x (mem_ins11.2 h)) b hb)
theorem rd_ln11 {x : In} (h : may11 x = true) : rd11 (ln11 x) = some x := by
  unfold rd11
  cases q : ins11.find? fun y => ln11 y == ln11 x with
  | none => exact absurd (List.find?_eq_none.1 q x (mem_ins11.2 h)) (by simp)
  | some y =>
    have h1 := List.find?_some q
    have h2 := List.mem_of_find?_eq_some q
    rw [ln_inj11 (mem_ins11.1 h2) h (by simpa using h1)]
theorem rd_some11 {s : List UInt8} {x : In} (h : rd11 s = some x) : may11 x = true ∧ ln11 x = s := by
  unfold rd11 at h
  exact ⟨mem_ins11.1 (List.mem_of_find?_eq_some h), by simpa using List.find?_some h⟩
end Go.Proofs.YtalfbdigjaibkaaGreat
