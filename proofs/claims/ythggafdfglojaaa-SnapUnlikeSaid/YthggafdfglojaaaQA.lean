/- A sum of bytes, bit by bit, in plain mathematics. -/
import Derived.Test.YthggafdfglojaaaH0
import Derived.Laws.BitsAllLaws
namespace Go.Proofs.Ythggafdfglojaaa
open Go.RowKit
/-- one goes on with a bit 0 -/
def gP : Nat := 3988292384
def g1 (n : Nat) : Nat := if n % 2 = 1 then (n / 2) ^^^ gP else n / 2
def gk : Nat → Nat → Nat
  | 0, n => n
  | k + 1, n => g1 (gk k n)
/-- one goes on with bytes -/
def cu (v : Nat) (l : List Nat) : Nat := l.foldl (fun v c => gk 8 (v ^^^ c)) v
theorem xor_mod2 (a b : Nat) : (a ^^^ b) % 2 = (a % 2 + b % 2) % 2 := by
  have h := Nat.xor_mod_two_pow (a := a) (b := b) (n := 1)
  rw [Nat.pow_one] at h
  rw [h]
  rcases Nat.mod_two_eq_zero_or_one a with h1 | h1 <;> rcases Nat.mod_two_eq_zero_or_one b with h2 | h2 <;> rw [h1, h2] <;> rfl
theorem xor_div2 (a b : Nat) : (a ^^^ b) / 2 = (a / 2) ^^^ (b / 2) := Nat.xor_div_two
theorem g_xor (a b : Nat) : g1 (a ^^^ b) = g1 a ^^^ g1 b := by
  unfold g1
  rw [xor_mod2, xor_div2]
  rcases Nat.mod_two_eq_zero_or_one a with h1 | h1 <;> rcases Nat.mod_two_eq_zero_or_one b with h2 | h2 <;> simp only [h1, h2] <;> simp
  · rw [Nat.xor_assoc]
  · rw [Nat.xor_assoc, Nat.xor_assoc, Nat.xor_comm (b / 2) gP]
  · rw [Nat.xor_assoc, Nat.xor_comm gP, Nat.xor_assoc, Nat.xor_self, Nat.xor_zero]
theorem gk_xor (k a b : Nat) : gk k (a ^^^ b) = gk k a ^^^ gk k b := by
  induction k with
  | zero => rfl
  | succ k ih => show g1 (gk k (a ^^^ b)) = _; rw [ih, g_xor]; rfl
theorem g_twice (n : Nat) : g1 (2 * n) = n := by
  unfold g1
  rw [if_neg (by omega)]; omega
theorem gk_in (k n : Nat) : gk k (g1 n) = g1 (gk k n) := by
  induction k with
  | zero => rfl
  | succ k ih => show g1 (gk k (g1 n)) = _; rw [ih]; rfl
theorem gk_times (k n : Nat) : gk k (2 ^ k * n) = n := by
  induction k generalizing n with
  | zero => simp [gk]
  | succ k ih => show g1 (gk k _) = n; rw [Nat.pow_succ, Nat.mul_assoc, ih, g_twice]
theorem xor_split (k n : Nat) : (n % 2 ^ k) ^^^ (2 ^ k * (n / 2 ^ k)) = n := by
  apply Nat.eq_of_testBit_eq
  intro i
  rw [Nat.testBit_xor, Nat.testBit_mod_two_pow, Nat.testBit_two_pow_mul, Nat.testBit_div_two_pow]
  by_cases h : i < k
  · have : ¬ k ≤ i := by omega
    simp [h, this]
  · have h2 : k ≤ i := by omega
    simp [h, h2]
theorem g_lt {n : Nat} (h : n < 2 ^ 32) : g1 n < 2 ^ 32 := by
  unfold g1
  split
  · exact Nat.xor_lt_two_pow (by omega) (by decide)
  · omega
theorem gk_lt {n : Nat} (k : Nat) (h : n < 2 ^ 32) : gk k n < 2 ^ 32 := by
  induction k with
  | zero => exact h
  | succ k ih => exact g_lt ih
theorem cu_lt {v : Nat} {l : List Nat} (h : v < 2 ^ 32) (hl : ∀ c ∈ l, c < 256) : cu v l < 2 ^ 32 := by
  induction l generalizing v with
  | nil => exact h
  | cons c l ih =>
    refine ih (gk_lt 8 (Nat.xor_lt_two_pow h ?_)) (fun d hd => hl d (by simp [hd]))
    have := hl c (by simp)
    omega
theorem g_zero {n : Nat} (h : n < 2 ^ 32) (e : g1 n = 0) : n = 0 := by
  unfold g1 at e
  split at e
  · have h2 : n / 2 = gP := by
      have e2 := congrArg (· ^^^ gP) e
      simp only [Nat.xor_assoc, Nat.xor_self, Nat.xor_zero, Nat.zero_xor] at e2
      exact e2
    unfold gP at h2
    omega
  · omega
theorem gk_zero {n : Nat} (k : Nat) (h : n < 2 ^ 32) (e : gk k n = 0) : n = 0 := by
  induction k with
  | zero => exact e
  | succ k ih => exact ih (g_zero (gk_lt k h) e)
theorem xor_zero {a b : Nat} (e : a ^^^ b = 0) : a = b := by
  have e2 := congrArg (· ^^^ b) e
  simpa only [Nat.xor_assoc, Nat.xor_self, Nat.xor_zero, Nat.zero_xor] using e2
theorem gk_inj {a b : Nat} (k : Nat) (ha : a < 2 ^ 32) (hb : b < 2 ^ 32) (e : gk k a = gk k b) : a = b := by
  have h : gk k (a ^^^ b) = 0 := by rw [gk_xor, e, Nat.xor_self]
  exact xor_zero (gk_zero k (Nat.xor_lt_two_pow ha hb) h)
theorem cu_append (v : Nat) (l r : List Nat) : cu v (l ++ r) = cu (cu v l) r := List.foldl_append
theorem cu_one (v : Nat) (l : List Nat) (c : Nat) : cu v (l ++ [c]) = gk 8 (cu v l ^^^ c) := by rw [cu_append]; rfl
theorem xor_inj {a b c : Nat} (e : a ^^^ c = b ^^^ c) : a = b := by
  have e2 := congrArg (· ^^^ c) e
  simpa only [Nat.xor_assoc, Nat.xor_self, Nat.xor_zero] using e2
theorem cu_inj {a b : Nat} {l : List Nat} (ha : a < 2 ^ 32) (hb : b < 2 ^ 32) (hl : ∀ c ∈ l, c < 256) (e : cu a l = cu b l) : a = b := by
  induction l generalizing a b with
  | nil => exact e
  | cons c l ih =>
    have hc : c < 2 ^ 32 := by have := hl c (by simp); omega
    have h := ih (gk_lt 8 (Nat.xor_lt_two_pow ha hc)) (gk_lt 8 (Nat.xor_lt_two_pow hb hc)) (fun d hd => hl d (by simp [hd])) e
    exact xor_inj (gk_inj 8 (Nat.xor_lt_two_pow ha hc) (Nat.xor_lt_two_pow hb hc) h)
/-- one byte that is other is seen -/
theorem cu_sees {v : Nat} {l r : List Nat} {c d : Nat} (hv : v < 2 ^ 32) (hl : ∀ c ∈ l, c < 256) (hr : ∀ c ∈ r, c < 256) (hc : c < 256) (hd : d < 256) (e : cu v (l ++ c :: r) = cu v (l ++ d :: r)) : c = d := by
  have hm := cu_lt hv hl
  have hc' : c < 2 ^ 32 := by omega
  have hd' : d < 2 ^ 32 := by omega
  rw [cu_append, cu_append] at e
  have h := cu_inj (a := gk 8 (cu v l ^^^ c)) (b := gk 8 (cu v l ^^^ d)) (gk_lt 8 (Nat.xor_lt_two_pow hm hc')) (gk_lt 8 (Nat.xor_lt_two_pow hm hd')) hr e
  have h2 := gk_inj 8 (Nat.xor_lt_two_pow hm hc') (Nat.xor_lt_two_pow hm hd') h
  rw [Nat.xor_comm _ c, Nat.xor_comm _ d] at h2
  exact xor_inj h2
theorem xor4 (a b c d : Nat) : (a ^^^ b) ^^^ (c ^^^ d) = (a ^^^ c) ^^^ (b ^^^ d) := by
  rw [Nat.xor_assoc, Nat.xor_assoc, ← Nat.xor_assoc b c d, Nat.xor_comm b c, Nat.xor_assoc c b d]
/-- what three texts' bytes come to by exclusive or -/
def xl : List Nat → List Nat → List Nat → List Nat
  | a :: s, b :: t, c :: u => (a ^^^ b ^^^ c) :: xl s t u
  | _, _, _ => []
theorem cu_xl (s t u : List Nat) (a b c : Nat) (h1 : s.length = t.length) (h2 : s.length = u.length) :
    cu a s ^^^ cu b t ^^^ cu c u = cu (a ^^^ b ^^^ c) (xl s t u) := by
  induction s generalizing t u a b c with
  | nil => 
    have ht : t = [] := List.eq_nil_of_length_eq_zero h1.symm
    have hu : u = [] := List.eq_nil_of_length_eq_zero h2.symm
    subst ht hu
    rfl
  | cons x s ih =>
    match t, u with
    | y :: t, z :: u =>
      have h1' : s.length = t.length := by simpa using h1
      have h2' : s.length = u.length := by simpa using h2
      show cu (gk 8 (a ^^^ x)) s ^^^ cu (gk 8 (b ^^^ y)) t ^^^ cu (gk 8 (c ^^^ z)) u = cu (gk 8 ((a ^^^ b ^^^ c) ^^^ (x ^^^ y ^^^ z))) (xl s t u)
      rw [ih t u _ _ _ h1' h2']
      congr 1
      rw [← gk_xor, ← gk_xor]
      congr 1
      rw [xor4 a x b y, xor4 (a ^^^ b) (x ^^^ y) c z]
/-- turned -/
def mx : Nat := 4294967295
theorem turn_sub {n : Nat} (h : n < 2 ^ 32) : mx - n = mx ^^^ n := by
  apply Nat.eq_of_testBit_eq
  intro i
  have e : mx - n = 2 ^ 32 - (n + 1) := by unfold mx; omega
  have e2 : mx = 2 ^ 32 - 1 := rfl
  rw [e, Nat.testBit_two_pow_sub_succ h, Nat.testBit_xor, e2, Nat.testBit_two_pow_sub_one]
  by_cases hi : i < 32
  · simp [hi]
  · have : n.testBit i = false := Nat.testBit_lt_two_pow (Nat.lt_of_lt_of_le h (Nat.pow_le_pow_right (by omega) (by omega)))
    simp [hi, this]
/-- the sum -/
def crM (n : Nat) (l : List Nat) : Nat := mx - cu (mx - n) l
/-- four bytes, the lowest first -/
def by4 (n : Nat) : List Nat := [n % 256, n / 256 % 256, n / 65536 % 256, n / 16777216]
theorem gk8_byte (v n : Nat) : gk 8 (v ^^^ n) = gk 8 (v ^^^ (n % 256)) ^^^ (n / 256) := by
  have h := xor_split 8 n
  rw [show (2 : Nat) ^ 8 = 256 from rfl] at h
  have h2 := gk_times 8 (n / 256)
  rw [show (2 : Nat) ^ 8 = 256 from rfl] at h2
  conv => lhs; rw [← h]
  rw [← Nat.xor_assoc, gk_xor, h2]
theorem cu_by4 (v n : Nat) (h : n < 2 ^ 32) : cu v (by4 n) = gk 32 (v ^^^ n) := by
  have e1 : gk 32 (v ^^^ n) = gk 8 (gk 8 (gk 8 (gk 8 (v ^^^ n)))) := rfl
  rw [e1, gk8_byte v n, gk8_byte _ (n / 256), gk8_byte _ (n / 256 / 256), gk8_byte _ (n / 256 / 256 / 256)]
  have e2 : n / 256 / 256 / 256 / 256 = 0 := by omega
  have e3 : n / 256 / 256 = n / 65536 := by omega
  have e4 : n / 65536 / 256 = n / 16777216 := by omega
  have e5 : n / 16777216 % 256 = n / 16777216 := by omega
  rw [e2, e3, e4, e5, Nat.xor_zero]
  rfl
/-- a text with its sum's bytes behind has one sum -/
theorem one_sum (l : List Nat) (hl : ∀ c ∈ l, c < 256) : crM 0 (l ++ by4 (crM 0 l)) = crM 0 (by4 0) := by
  have hm : mx < 2 ^ 32 := by decide
  have hv : cu mx l < 2 ^ 32 := cu_lt hm hl
  have hs : mx - cu mx l < 2 ^ 32 := by unfold mx; omega
  unfold crM
  rw [Nat.sub_zero]
  rw [cu_append, cu_by4 _ _ hs, cu_by4 _ _ (by decide), turn_sub hv, Nat.xor_comm mx, ← Nat.xor_assoc, Nat.xor_self, Nat.zero_xor, Nat.xor_zero]
/-- a bit more of the document's way -/
def rb (v b : Nat) : Nat := if v % 2 ≠ b then (v / 2) ^^^ gP else v / 2
theorem rb_g (v b : Nat) (h : b < 2) : rb v b = g1 (v ^^^ b) := by
  unfold rb g1
  rw [xor_mod2, xor_div2]
  have hb : b / 2 = 0 := by omega
  rw [hb, Nat.xor_zero]
  obtain rfl | rfl : b = 0 ∨ b = 1 := by omega
  all_goals rcases Nat.mod_two_eq_zero_or_one v with h | h <;> simp [h]
/-- behind k bits of c -/
theorem rb_step (k x v c : Nat) (e : x ^^^ (c / 2 ^ k) = gk k (v ^^^ c)) : rb x (c / 2 ^ k % 2) ^^^ (c / 2 ^ (k + 1)) = gk (k + 1) (v ^^^ c) := by
  show _ = g1 (gk k (v ^^^ c))
  rw [← e, rb_g _ _ (by omega), Nat.pow_succ, ← Nat.div_div_eq_div_mul]
  have h := xor_split 1 (c / 2 ^ k)
  rw [Nat.pow_one] at h
  conv => rhs; rw [← h]
  rw [← Nat.xor_assoc, g_xor (x ^^^ _), g_twice]
/-- the program's way with a byte -/
theorem table_step (v c : Nat) : (v / 256) ^^^ gk 8 ((v % 256) ^^^ c) = gk 8 (v ^^^ c) := by
  rw [Nat.xor_comm v c, gk8_byte c v, Nat.xor_comm c, Nat.xor_comm (v / 256)]
end Go.Proofs.Ythggafdfglojaaa
