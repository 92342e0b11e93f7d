/- What every text begins with: hidden facts, memory that is older than the call, blocks of cells, rows of the call's own. What values and floats' bits are, in plain mathematics, and the contracts of the small functions of packages value and flt, and of the document's answers for them. Heaps of objects as plain data, and how they lie in memory. -/
import Derived.Test.YtnilempeldlieaaGreatRows
import Derived.Laws.BitsLemmas
import Derived.WalkKit
import Derived.BigQuiet
import Derived.Deep.QuietTactic
import Derived.Deep.DeepFit
import Derived.Outline
import Derived.WalkSpells
import Derived.WalkLawsBesides
import Derived.Deep.RegionHeld3
import Derived.Deep.RegionWith
namespace Go.Proofs.YtnilempeldlieaaGreat
open Go.RowKit
theorem tk12 {P : Program} {md : Region.Mode} {ops : Array Oper} {Q : Exit → Act → World → Prop} {S : World → Prop} {i : Nat} {oi : Oper} {v : Value} {fuel : Nat} {listed : Array Bool} {a : Act} {w : World} (hi : ops[i]? = some oi)
    (hk : (Region.noSelect ops && (Region.free md ops listed i && (Region.ready md ops listed).contains i)) = true) (hy : YieldsIf P ops S oi v a)
    (h : wpAnyH P md ops Q S fuel (listed.setIfInBounds i true) (a.put oi.dst v) w) (hQ : ∀ c a w, Q (.panic c) (a.put oi.dst v) w → Q (.panic c) a w := by exact fun _ _ _ h => h) (hS : S w := by assumption) : wpAnyH P md ops Q S (fuel + 1) listed a w := by
  simp only [Bool.and_eq_true] at hk
  exact wpAnyH_take hi hk.1 hk.2.1 hk.2.2 hQ hy hS h
theorem apt12 : (∀ (a : Act) (v : Value), a.put none v = a) ∧ (∀ (t : Array Value) (ds : _) (d : Nat) (v : Value), Act.put ⟨t, ds⟩ (some d) v = ⟨t.setIfInBounds d v, ds⟩) ∧
    (∀ (l : List Value) (i : Nat) (v : Value), l.toArray.setIfInBounds i v = (l.set i v).toArray) ∧ (∀ (l : List Value) (x v : Value), (x :: l).set 0 v = v :: l) ∧ (∀ (l : List Value) (x v : Value) (i : Nat), (x :: l).set (i + 1) v = x :: l.set i v) :=
  ⟨fun _ _ => rfl, fun _ _ _ _ => rfl, fun _ _ _ => List.setIfInBounds_toArray .., fun _ _ _ => rfl, fun _ _ _ _ => rfl⟩
theorem hid {p : Prop} (h : p) : Go.RowKit.Hid p := h
theorem below_alloc (w : World) (o : Obj) : Below w.heap.size w (w.alloc o) := (Below.refl _ _).alloc (Nat.le_refl _) _
theorem bcell {W w1 : World} (hb : Below W.heap.size W w1) : (∀ b o, b < W.heap.size → w1.cell? ⟨b, o, none⟩ = W.cell? ⟨b, o, none⟩) ∧ (∀ b o, b < W.heap.size → w1.frozen? ⟨b, o, none⟩ = W.frozen? ⟨b, o, none⟩) :=
  ⟨fun b o h => hb.cell (p := ⟨b, o, none⟩) h, fun b o h => hb.frozen (p := ⟨b, o, none⟩) h⟩
theorem below_alloc2 (w : World) (o p : Obj) : Below w.heap.size w ((w.alloc o).alloc p) := (below_alloc w o).alloc (by simp) p
theorem cell_later {w w' : World} {p : Addr} {v : Value} (hb : Below w.heap.size w w') (h : w.cell? p = some v) : w'.cell? p = some v :=
  (hb.cell (World.block_lt_of_cell? w p h)).trans h
theorem cell_old {w : World} {p : Addr} {v : Value} {ob : Obj} (h : w.cell? p = some v) : (w.alloc ob).cell? p = some v := (World.cell?_alloc_lt w ob p (World.block_lt_of_cell? w p h)).trans h
def Fresh (w w' : World) (e : TypeId) (size n : Nat) (xs : List Value) (en : Ending) : Prop :=
  ∃ A c, en = .returned (.slice A n c) ∧ w'.ownsRow w.heap.size e size (.slice A n c) n xs ∧ Below w.heap.size w w'
theorem own_form {w : World} {base : Nat} {e : TypeId} {size n : Nat} {v : Value} {xs : List Value} (h : w.ownsRow base e size v n xs) : ∃ A c, v = .slice A n c := by
  rcases h.2 with ⟨rfl, rfl⟩ | ⟨g, cap, cur, rfl, _⟩
  · exact ⟨none, 0, rfl⟩
  · exact ⟨_, _, rfl⟩
def Lies (w : World) (g : Nat) (t : TypeId) (cs : Array Value) : Prop := w.heap[g]? = some (.cells cs t (0, 0))
section
variable {w w' : World} {g : Nat} {t : TypeId} {cs : Array Value}
theorem Lies.lt (h : Lies w g t cs) : g < w.heap.size := (Array.getElem?_eq_some_iff.1 h).1
theorem Lies.cell (h : Lies w g t cs) (i : Nat) : w.cell? ⟨g, i, none⟩ = cs[i]? := by
  unfold Lies at h
  simp [World.cell?, h]
theorem Lies.frozen (h : Lies w g t cs) (i : Nat) : w.frozen? ⟨g, i, none⟩ = false := by
  unfold Lies at h
  simp [World.frozen?, h]
theorem Lies.below {B : Nat} (h : Lies w g t cs) (hb : Below B w w') (hg : g < B) : Lies w' g t cs := (hb.block g hg).trans h
theorem Lies.later (h : Lies w g t cs) (hb : Below w.heap.size w w') : Lies w' g t cs := h.below hb h.lt
theorem Lies.new (w : World) (t : TypeId) (cs : Array Value) : Lies (w.alloc (.cells cs t)) w.heap.size t cs := by
  show (w.heap.push _)[w.heap.size]? = _
  simp
theorem Lies.drew (h : Lies w g t cs) : Lies w.drew g t cs := h.later (Below.refl _ _).drew
theorem Lies.alloc (h : Lies w g t cs) (o : Obj) : Lies (w.alloc o) g t cs := h.later (below_alloc w o)
theorem Lies.far (h : Lies w g t cs) {p : Addr} (hp : g ≠ p.block) (u : Value) : Lies (w.setCell p u) g t cs := by
  show (w.setCell p u).heap[g]? = _
  rw [Below.heap_setCell w p u g hp]; exact h
theorem Lies.set_ (h : Lies w g t cs) (i : Nat) (u : Value) : Lies (w.setCell ⟨g, i, none⟩ u) g t (cs.setIfInBounds i u) := by
  have h' : w.heap[g]? = some (.cells cs t (0, 0)) := h
  show (w.setCell ⟨g, i, none⟩ u).heap[g]? = _
  simp [World.setCell, Array.getElem?_modify, h']
theorem own_blk_ne {base : Nat} {e : TypeId} {size n : Nat} {v : Value} {xs : List Value} (h : w.ownsRow base e size v n xs) (hg : Lies w g t cs) (hne : e ≠ t) : v.ownBlock ≠ some g := fun he => by
  rcases h.2 with ⟨e0, _⟩ | ⟨b, cap, cur, e0, _, hh, _⟩
  · rw [e0] at he; cases he
  · rw [e0] at he
    obtain rfl : b = g := by simpa [Value.ownBlock] using he
    have h2 : some (Obj.cells cur e (0, 0)) = some (Obj.cells cs t (0, 0)) := hh.symm.trans hg
    cases h2
    exact hne rfl
theorem own_blk {base : Nat} {e : TypeId} {size n c b o : Nat} {s : Option Nat} {xs : List Value} (h : w.ownsRow base e size (.slice (some ⟨b, o, s⟩) n c) n xs) : ∃ cur, Lies w b e cur ∧ o = 0 ∧ s = none ∧ base ≤ b := by
  rcases h.2 with ⟨h', _⟩ | ⟨g', cap, cur, h', hb, hh, _⟩
  · cases h'
  · simp only [Value.slice.injEq, Option.some.injEq, Addr.mk.injEq, true_and] at h'
    obtain ⟨⟨rfl, rfl, rfl⟩, _⟩ := h'
    exact ⟨cur, hh, rfl, rfl, hb⟩
end
theorem own_later {w w' : World} {base : Nat} {e : TypeId} {size n : Nat} {v : Value} {xs : List Value} (h : w.ownsRow base e size v n xs) (hb : Below w.heap.size w w') : w'.ownsRow base e size v n xs :=
  h.kept (row := none) ⟨hb.os, hb.tape, hb.output, hb.size, fun k hk _ => hb.block k hk⟩ (by cases hv : v.ownBlock <;> simp)
theorem own_lower {w : World} {base base' : Nat} {e : TypeId} {size n : Nat} {v : Value} {xs : List Value} (h : w.ownsRow base e size v n xs) (hb : base' ≤ base) : w.ownsRow base' e size v n xs := by
  refine ⟨h.1, ?_⟩
  rcases h.2 with hn | ⟨g, cap, cur, hv, hg, hr⟩
  · exact .inl hn
  · exact .inr ⟨g, cap, cur, hv, by omega, hr⟩
theorem own_nil {w : World} {base : Nat} {e : TypeId} {size n c m : Nat} {S : Option Addr} {xs : List Value} (h : w.ownsRow base e size (.slice S m c) n xs) : S = none → c = 0 := by
  rintro rfl
  rcases h.2 with ⟨h', hn⟩ | ⟨g, cap, cur, h', _⟩
  · cases h'; rfl
  · cases h'
theorem own_cap {w : World} {base : Nat} {e : TypeId} {size n c m : Nat} {S : Option Addr} {xs : List Value} (h : w.ownsRow base e size (.slice S m c) n xs) : n ≤ c := by
  rcases h.2 with ⟨h', hn⟩ | ⟨g, cap, cur, h', _, _, hc, _⟩
  · cases h'; omega
  · cases h'; omega
theorem then_w {w v w' : World} (h : Below w.heap.size w v) (hb : Below v.heap.size v w') : Below w.heap.size w w' := h.trans (hb.mono h.size)
theorem lies_ne {w : World} {g g' : Nat} {t t' : TypeId} {cs cs' : Array Value} (h : Lies w g t cs) (h' : Lies w g' t' cs') (e : t ≠ t') : g ≠ g' := fun eq => by
  subst eq
  have := h.symm.trans h'
  injection this with this
  injection this with _ this
  exact e this
theorem Lies.c2 {w : World} {g : Nat} {t : TypeId} {a0 b0 : Value} (h : Lies w g t #[a0, b0]) : w.cell? ⟨g, 0, none⟩ = some a0 ∧ w.cell? ⟨g, 1, none⟩ = some b0 := ⟨h.cell 0, h.cell 1⟩
theorem Lies.f2 {w : World} {g : Nat} {t : TypeId} {a0 b0 : Value} (h : Lies w g t #[a0, b0]) : w.frozen? ⟨g, 0, none⟩ = false ∧ w.frozen? ⟨g, 1, none⟩ = false := ⟨h.frozen 0, h.frozen 1⟩
theorem Lies.c3 {w : World} {g : Nat} {t : TypeId} {a0 b0 c0 : Value} (h : Lies w g t #[a0, b0, c0]) : w.cell? ⟨g, 0, none⟩ = some a0 ∧ w.cell? ⟨g, 1, none⟩ = some b0 ∧ w.cell? ⟨g, 2, none⟩ = some c0 := ⟨h.cell 0, h.cell 1, h.cell 2⟩
theorem Lies.f3 {w : World} {g : Nat} {t : TypeId} {a0 b0 c0 : Value} (h : Lies w g t #[a0, b0, c0]) : w.frozen? ⟨g, 0, none⟩ = false ∧ w.frozen? ⟨g, 1, none⟩ = false ∧ w.frozen? ⟨g, 2, none⟩ = false := ⟨h.frozen 0, h.frozen 1, h.frozen 2⟩
theorem Lies.c5 {w : World} {g : Nat} {t : TypeId} {a0 b0 c0 d0 e0 : Value} (h : Lies w g t #[a0, b0, c0, d0, e0]) : w.cell? ⟨g, 0, none⟩ = some a0 ∧ w.cell? ⟨g, 1, none⟩ = some b0 ∧ w.cell? ⟨g, 2, none⟩ = some c0 ∧ w.cell? ⟨g, 3, none⟩ = some d0 ∧ w.cell? ⟨g, 4, none⟩ = some e0 := ⟨h.cell 0, h.cell 1, h.cell 2, h.cell 3, h.cell 4⟩
theorem Lies.f5 {w : World} {g : Nat} {t : TypeId} {a0 b0 c0 d0 e0 : Value} (h : Lies w g t #[a0, b0, c0, d0, e0]) : w.frozen? ⟨g, 0, none⟩ = false ∧ w.frozen? ⟨g, 1, none⟩ = false ∧ w.frozen? ⟨g, 2, none⟩ = false ∧ w.frozen? ⟨g, 3, none⟩ = false ∧ w.frozen? ⟨g, 4, none⟩ = false := ⟨h.frozen 0, h.frozen 1, h.frozen 2, h.frozen 3, h.frozen 4⟩
theorem Lies.c6 {w : World} {g : Nat} {t : TypeId} {a0 b0 c0 d0 e0 f0 : Value} (h : Lies w g t #[a0, b0, c0, d0, e0, f0]) : w.cell? ⟨g, 0, none⟩ = some a0 ∧ w.cell? ⟨g, 1, none⟩ = some b0 ∧ w.cell? ⟨g, 2, none⟩ = some c0 ∧ w.cell? ⟨g, 3, none⟩ = some d0 ∧ w.cell? ⟨g, 4, none⟩ = some e0 ∧ w.cell? ⟨g, 5, none⟩ = some f0 := ⟨h.cell 0, h.cell 1, h.cell 2, h.cell 3, h.cell 4, h.cell 5⟩
theorem Lies.f6 {w : World} {g : Nat} {t : TypeId} {a0 b0 c0 d0 e0 f0 : Value} (h : Lies w g t #[a0, b0, c0, d0, e0, f0]) : w.frozen? ⟨g, 0, none⟩ = false ∧ w.frozen? ⟨g, 1, none⟩ = false ∧ w.frozen? ⟨g, 2, none⟩ = false ∧ w.frozen? ⟨g, 3, none⟩ = false ∧ w.frozen? ⟨g, 4, none⟩ = false ∧ w.frozen? ⟨g, 5, none⟩ = false := ⟨h.frozen 0, h.frozen 1, h.frozen 2, h.frozen 3, h.frozen 4, h.frozen 5⟩
theorem Lies.c9 {w : World} {g : Nat} {t : TypeId} {a0 b0 c0 d0 e0 f0 g0 h0 i0 : Value} (h : Lies w g t #[a0, b0, c0, d0, e0, f0, g0, h0, i0]) : w.cell? ⟨g, 0, none⟩ = some a0 ∧ w.cell? ⟨g, 1, none⟩ = some b0 ∧ w.cell? ⟨g, 2, none⟩ = some c0 ∧ w.cell? ⟨g, 3, none⟩ = some d0 ∧ w.cell? ⟨g, 4, none⟩ = some e0 ∧ w.cell? ⟨g, 5, none⟩ = some f0 ∧ w.cell? ⟨g, 6, none⟩ = some g0 ∧ w.cell? ⟨g, 7, none⟩ = some h0 ∧ w.cell? ⟨g, 8, none⟩ = some i0 := ⟨h.cell 0, h.cell 1, h.cell 2, h.cell 3, h.cell 4, h.cell 5, h.cell 6, h.cell 7, h.cell 8⟩
theorem cell_far {w : World} {g j g' o : Nat} {u v : Value} (hne : g' ≠ g) (h : w.cell? ⟨g', o, none⟩ = some v) : (w.setCell ⟨g, j, none⟩ u).cell? ⟨g', o, none⟩ = some v :=
  (World.cell?_setCell_other _ _ _ _ (by intro e; injection e with e1; exact hne e1.symm)).trans h
end Go.Proofs.YtnilempeldlieaaGreat
namespace Go.Proofs.YtnilempeldlieaaGreat
open Go.RowKit

def smB (n : Int) : Bool := decide (-1073741824 ≤ n ∧ n ≤ 1073741823)
def nuB (i : Int) : Bool := decide (0 ≤ i ∧ i < 1048576)
def odB (v : Int) : Bool := decide (v % 2 = 1)
def reV (i : Int) : Int := if nuB i then 2 * i else 0
def nB (v : Int) : Bool := odB v && smB (v / 2)
def nV (v : Int) : Int := if nB v then v / 2 else 0
def atB (v : Int) : Bool := !odB v && nuB (v / 2)
def atV (v : Int) : Int := if atB v then v / 2 else 0

theorem smB_iff {n : Int} : smB n = true ↔ -1073741824 ≤ n ∧ n ≤ 1073741823 := by simp [smB]
theorem nuB_iff {n : Int} : nuB n = true ↔ 0 ≤ n ∧ n < 1048576 := by simp [nuB]
theorem odB_iff {n : Int} : odB n = true ↔ n % 2 = 1 := by simp [odB]
theorem odB_no {n : Int} : odB n = false ↔ n % 2 = 0 := by simp [odB]; omega
theorem nB_iff {v : Int} : nB v = true ↔ v % 2 = 1 ∧ -2147483648 ≤ v ∧ v ≤ 2147483647 := by
  simp [nB, odB_iff, smB_iff]; omega
theorem atB_iff {v : Int} : atB v = true ↔ v % 2 = 0 ∧ 0 ≤ v ∧ v < 2097152 := by
  simp [atB, odB_no, nuB_iff]; omega
theorem atV_lt {v : Int} (h : atB v = true) : 0 ≤ atV v ∧ atV v < 1048576 := by
  have := atB_iff.1 h
  unfold atV; rw [if_pos h]; omega

theorem and_mask (a : Int) (k : Nat) (hk : k ≤ 63) (m : Int) (hm : m = (2 ^ k - 1 : Nat)) : bits .and .i64 a m = a % (2 ^ k : Nat) := by
  have h2 : 2 ^ k ≤ 2 ^ 63 := Nat.pow_le_pow_right (by omega) hk
  have hp : 0 < 2 ^ k := Nat.two_pow_pos k
  have h1 : (BitVec.ofInt 64 m).toNat = 2 ^ k - 1 := by
    rw [hm, BitVec.toNat_ofInt]
    have : ((2 ^ 64 : Nat) : Int) = 18446744073709551616 := by decide
    rw [this]
    generalize 2 ^ k = p at *
    omega
  have key : (BitVec.ofInt 64 a &&& BitVec.ofInt 64 m).toNat = (a % ((2 ^ 64 : Nat) : Int)).toNat % 2 ^ k := by
    rw [BitVec.toNat_and, BitVec.toNat_ofInt, h1, Nat.and_two_pow_sub_one_eq_mod]
  show IntKind.i64.wrap ((BitVec.ofInt 64 a &&& BitVec.ofInt 64 m).toNat : Nat) = _
  rw [key, IntKind.wrap_i64]
  have hd : ((a % ((2 ^ 64 : Nat) : Int)).toNat % 2 ^ k : Nat) = (a % (2 ^ k : Nat)).toNat := by
    have e : (2 ^ 64 : Nat) = 2 ^ k * 2 ^ (64 - k) := by rw [← Nat.pow_add]; congr 1; omega
    have h3 : 0 ≤ a % ((2 ^ 64 : Nat) : Int) := Int.emod_nonneg _ (by decide)
    have h4 : 0 ≤ a % ((2 ^ k : Nat) : Int) := Int.emod_nonneg _ (by omega)
    apply Int.ofNat.inj
    show (((a % ((2 ^ 64 : Nat) : Int)).toNat % 2 ^ k : Nat) : Int) = ((a % (2 ^ k : Nat)).toNat : Int)
    rw [Int.natCast_emod, Int.toNat_of_nonneg h3, Int.toNat_of_nonneg h4, Int.emod_emod_of_dvd]
    rw [e, Int.natCast_mul]
    exact Int.dvd_mul_right ..
  rw [hd]
  have h4 : 0 ≤ a % ((2 ^ k : Nat) : Int) := Int.emod_nonneg _ (by omega)
  have h5 : a % ((2 ^ k : Nat) : Int) < (2 ^ k : Nat) := Int.emod_lt_of_pos _ (by omega)
  rw [Int.toNat_of_nonneg h4]
  have h6 : ((2 ^ k : Nat) : Int) ≤ 9223372036854775808 := by
    have : (2 : Nat) ^ 63 = 9223372036854775808 := by decide
    rw [this] at h2
    generalize 2 ^ k = p at *
    omega
  generalize a % ((2 ^ k : Nat) : Int) = x at *
  generalize ((2 ^ k : Nat) : Int) = y at *
  omega
theorem and1 (a : Int) : bits .and .i64 a 1 = a % 2 := and_mask a 1 (by omega) 1 (by decide)
theorem and11 (a : Int) : bits .and .i64 a 2047 = a % 2048 := and_mask a 11 (by omega) 2047 (by decide)
theorem and30 (a : Int) : bits .and .i64 a 1073741823 = a % 1073741824 := and_mask a 30 (by omega) _ (by decide)
theorem and52 (a : Int) : bits .and .i64 a 4503599627370495 = a % 4503599627370496 := and_mask a 52 (by omega) _ (by decide)
theorem and63 (a : Int) : bits .and .i64 a 9223372036854775807 = a % 9223372036854775808 := and_mask a 63 (by omega) _ (by decide)

theorem small_any (v : Int) (w : World) : Calls Tryz.prog 206 #[.int .i64 v] w fun e w' => e = .returned (.bool (smB v)) ∧ w = w' := by
  by_cases h1 : -1073741824 ≤ v
  · have e : smB v = decide (v ≤ 1073741823) := by simp [smB, h1]
    rw [e]; clear e
    go_enter Tryz.func206, Tryz.ntmps206
    go_wp2
    go_ret; exact ⟨rfl, rfl⟩
  · have e : smB v = false := by simp [smB, h1]
    rw [e]; clear e
    have h1' : v < -1073741824 := by omega
    go_enter Tryz.func206, Tryz.ntmps206
    go_wp2
    go_ret; exact ⟨rfl, rfl⟩
theorem number_any (v : Int) (w : World) : Calls Tryz.prog 99 #[.int .i64 v] w fun e w' => e = .returned (.bool (nuB v)) ∧ w = w' := by
  by_cases h1 : 0 ≤ v
  · have e : nuB v = decide (v < 1048576) := by simp [nuB, h1]
    rw [e]; clear e
    go_enter Tryz.func99, Tryz.ntmps99
    go_wp2
    go_ret; exact ⟨rfl, rfl⟩
  · have e : nuB v = false := by simp [nuB, h1]
    rw [e]; clear e
    have h1' : v < 0 := by omega
    go_enter Tryz.func99, Tryz.ntmps99
    go_wp2
    go_ret; exact ⟨rfl, rfl⟩
theorem odd_any (v : Int) (w : World) : Calls Tryz.prog 168 #[.int .i64 v] w fun e w' => e = .returned (.bool (odB v)) ∧ w = w' := by
  have e : odB v = (bits .and .i64 v 1 == 1) := by rw [and1]; simp [odB]; rfl
  rw [e]; clear e
  go_enter Tryz.func168, Tryz.ntmps168
  go_wp2
  go_ret
  exact ⟨rfl, rfl⟩
theorem ref_any (n : Int) (w : World) : Calls Tryz.prog 52 #[.int .i64 n] w fun e w' => e = .returned (.tuple #[.int .i64 (reV n), .bool (nuB n)]) ∧ w = w' := by
  cases h : nuB n
  · go_enter Tryz.func52, Tryz.ntmps52
    go_wp2_with (go_at_call 99; refine (number_any _ _).mono ?_; rintro e w' ⟨rfl, rfl⟩)
    go_ret2; exact ⟨by simp [reV, h], rfl⟩
  · have hb := nuB_iff.1 h
    have e : reV n = n * 2 := by simp [reV, h]; omega
    rw [e]; clear e
    have h1 := hb.1
    have h2 := hb.2
    clear hb
    go_enter Tryz.func52, Tryz.ntmps52
    go_wp2_with (go_at_call 99; refine (number_any _ _).mono ?_; rintro e w' ⟨rfl, rfl⟩)
    go_ret2; exact ⟨rfl, rfl⟩
theorem n_any (v : Int) (w : World) : Calls Tryz.prog 164 #[.int .i64 v] w fun e w' => e = .returned (.tuple #[.int .i64 (nV v), .bool (nB v)]) ∧ w = w' := by
  cases h1 : odB v <;> cases h2 : smB (v / 2)
  all_goals
    go_enter Tryz.func164, Tryz.ntmps164
    go_wp2_with (first | (go_at_call 206; refine (small_any _ _).mono ?_; rintro e w' ⟨rfl, rfl⟩) | (go_at_call 168; refine (odd_any _ _).mono ?_; rintro e w' ⟨rfl, rfl⟩))
    go_ret2
    exact ⟨by simp [nV, nB, h1, h2], rfl⟩
theorem at_any (v : Int) (w : World) : Calls Tryz.prog 110 #[.int .i64 v] w fun e w' => e = .returned (.tuple #[.int .i64 (atV v), .bool (atB v)]) ∧ w = w' := by
  cases h1 : odB v <;> cases h2 : nuB (v / 2)
  all_goals
    go_enter Tryz.func110, Tryz.ntmps110
    go_wp2_with (first | (go_at_call 99; refine (number_any _ _).mono ?_; rintro e w' ⟨rfl, rfl⟩) | (go_at_call 168; refine (odd_any _ _).mono ?_; rintro e w' ⟨rfl, rfl⟩))
    go_ret2
    exact ⟨by simp [atV, atB, h1, h2], rfl⟩
theorem rn_any (v : Int) (w : World) : Calls Tryz.prog 67 #[.int .i64 v] w fun e w' => e = .returned (.tuple #[.int .i64 (nV v), .bool (nB v)]) ∧ w = w' := by
  have hm : v.tmod 2 = 0 ∧ v % 2 = 0 ∨ ¬ v.tmod 2 = 0 ∧ v % 2 = 1 := by
    have := Int.emod_two_eq v
    have e : v.tmod 2 = 0 ↔ v % 2 = 0 := by
      rw [← Int.dvd_iff_tmod_eq_zero, Int.dvd_iff_emod_eq_zero]
    rw [e]; omega
  have F : nB v = true ∧ nV v = (v - 1).tdiv 2 ∧ (v.tmod 2 == 0) = false ∧ -2147483647 ≤ v ∧ v ≤ 2147483647 ∨ nB v = false ∧ nV v = 0 ∧ (v.tmod 2 == 0) = true ∨
      nB v = false ∧ nV v = 0 ∧ (v.tmod 2 == 0) = false ∧ v < -2147483647 ∨ nB v = false ∧ nV v = 0 ∧ (v.tmod 2 == 0) = false ∧ -2147483647 ≤ v ∧ 2147483647 < v := by
    cases h : nB v
    · have h' : ¬ (v % 2 = 1 ∧ -2147483648 ≤ v ∧ v ≤ 2147483647) := fun e => by rw [← nB_iff, h] at e; cases e
      rcases hm with ⟨h1, h2⟩ | ⟨h1, h2⟩ <;> simp [h1, nV, h] <;> omega
    · have h' := nB_iff.1 h
      have e : (v - 1).tdiv 2 = v / 2 := by
        by_cases hv : 0 ≤ v - 1
        · rw [Int.tdiv_eq_ediv_of_nonneg hv]; omega
        · have : v - 1 = -(1 - v) := by omega
          rw [this, Int.neg_tdiv, Int.tdiv_eq_ediv_of_nonneg (by omega)]; omega
      rcases hm with ⟨h1, h2⟩ | ⟨h1, h2⟩ <;> simp [h1, nV, h, e] <;> omega
  clear hm
  rcases F with ⟨h, e, t, b1, b2⟩ | ⟨h, e, t⟩ | ⟨h, e, t, b1⟩ | ⟨h, e, t, b1, b2⟩
  all_goals
    rw [h, e]; clear h e
    go_enter Tryz.func67, Tryz.ntmps67
    go_wp2
    all_goals (go_ret2; exact ⟨rfl, rfl⟩)
theorem rat_any (v : Int) (w : World) : Calls Tryz.prog 60 #[.int .i64 v] w fun e w' => e = .returned (.tuple #[.int .i64 (atV v), .bool (atB v)]) ∧ w = w' := by
  have hm : v.tmod 2 = 0 ∧ v % 2 = 0 ∨ ¬ v.tmod 2 = 0 ∧ v % 2 = 1 := by
    have := Int.emod_two_eq v
    have e : v.tmod 2 = 0 ↔ v % 2 = 0 := by
      rw [← Int.dvd_iff_tmod_eq_zero, Int.dvd_iff_emod_eq_zero]
    rw [e]; omega
  have F : atB v = true ∧ atV v = v / 2 ∧ (v.tmod 2 != 0) = false ∧ v % 2 = 0 ∧ 0 ≤ v ∧ v ≤ 2097150 ∨ atB v = false ∧ atV v = 0 ∧ (v.tmod 2 != 0) = true ∧ v % 2 = 1 ∨
      atB v = false ∧ atV v = 0 ∧ (v.tmod 2 != 0) = false ∧ v < 0 ∨ atB v = false ∧ atV v = 0 ∧ (v.tmod 2 != 0) = false ∧ 0 ≤ v ∧ 2097150 < v := by
    cases h : atB v
    · have h' : ¬ (v % 2 = 0 ∧ 0 ≤ v ∧ v < 2097152) := fun e => by rw [← atB_iff, h] at e; cases e
      rcases hm with ⟨h1, h2⟩ | ⟨h1, h2⟩ <;> simp [h1, atV, h] <;> omega
    · have h' := atB_iff.1 h
      rcases hm with ⟨h1, h2⟩ | ⟨h1, h2⟩ <;> simp [h1, atV, h] <;> omega
  clear hm
  rcases F with ⟨h, e, t, b0, b1, b2⟩ | ⟨h, e, t, b0⟩ | ⟨h, e, t, b1⟩ | ⟨h, e, t, b1, b2⟩
  all_goals
    rw [h, e]; clear h e
    go_enter Tryz.func60, Tryz.ntmps60
    go_wp2
    all_goals (go_ret2; exact ⟨rfl, rfl⟩)

def rg (a : Int) : Nat := (a % 9223372036854775808).toNat
def infR : Nat := 9218868437227405312
def theNaN : Int := 9221120237041090561
def kd (a : Int) : Int := if infR < rg a then 0 else if rg a = infR then 1 else if rg a = 0 then 2 else if rg a < 4503599627370496 then 3 else 4
def canon (a : Int) : Int := if infR < rg a then theNaN else a
theorem rg_lt (a : Int) : rg a < 9223372036854775808 := by unfold rg; omega
set_option maxHeartbeats 400000 in
theorem kind_any (a : Int) (w : World) : Calls Tryz.prog 207 #[.int .i64 a] w fun e w' => e = .returned (.int .i64 (kd a)) ∧ w = w' := by
  have e1 := and11 (a / 4503599627370496)
  have e2 := and52 a
  go_enter Tryz.func207, Tryz.ntmps207
  go_wp2
  all_goals go_ret
  all_goals
    refine ⟨?_, rfl⟩
    refine congrArg (fun x => Ending.returned (Value.int .i64 x)) ?_
    simp only [bne_iff_ne, ne_eq, bne_eq_false_iff_eq, beq_eq_false_iff_ne] at *
    have hi : infR = 9218868437227405312 := rfl
    have hr : (rg a : Int) = a % 9223372036854775808 := by unfold rg; omega
    unfold kd
    repeat' split
    all_goals omega

theorem kd_zero (a : Int) : kd a = 0 ↔ infR < rg a := by
  unfold kd
  repeat' split
  all_goals simp_all

set_option maxHeartbeats 400000 in
theorem canon_any (a : Int) (w : World) : Calls Tryz.prog 166 #[.int .i64 a] w fun e w' => e = .returned (.int .i64 (canon a)) ∧ w = w' := by
  by_cases h : infR < rg a
  · have e1 : kd a = 0 := (kd_zero a).2 h
    have e2 : canon a = 9221120237041090561 := by unfold canon; rw [if_pos h]; rfl
    rw [e2]; clear e2
    go_enter Tryz.func166, Tryz.ntmps166
    go_wp2_with (go_at_call 207; refine (kind_any _ _).mono ?_; rintro e w' ⟨rfl, rfl⟩)
    go_ret; exact ⟨rfl, rfl⟩
  · have e1 : (kd a == 0) = false := by rw [beq_eq_false_iff_ne]; exact fun g => h ((kd_zero a).1 g)
    have e2 : canon a = a := by unfold canon; rw [if_neg h]
    rw [e2]; clear e2
    go_enter Tryz.func166, Tryz.ntmps166
    go_wp2_with (go_at_call 207; refine (kind_any _ _).mono ?_; rintro e w' ⟨rfl, rfl⟩)
    all_goals go_ret
    all_goals first | exact ⟨rfl, rfl⟩ | skip

set_option maxHeartbeats 400000 in
theorem rnan_any (w : World) : Calls Tryz.prog 129 #[] w fun e w' => e = .returned (.int .i64 9221120237041090561) ∧ w = w' := by
  go_enter Tryz.func129, Tryz.ntmps129
  go_wp2
  go_ret; exact ⟨rfl, rfl⟩
set_option maxHeartbeats 400000 in
theorem rmost_any (w : World) : Calls Tryz.prog 175 #[] w fun e w' => e = .returned (.int .i64 9223372036854775807) ∧ w = w' := by
  go_enter Tryz.func175, Tryz.ntmps175
  go_wp2
  go_ret; exact ⟨rfl, rfl⟩
theorem rg_cast (a : Int) : (rg a : Int) = a % 9223372036854775808 := by unfold rg; omega
set_option maxHeartbeats 400000 in
theorem rplain_any (a : Int) (w : World) : Calls Tryz.prog 131 #[.int .i64 a] w fun e w' => e = .returned (.int .i64 (rg a)) ∧ w = w' := by
  have e1 : bits .and .i64 a 9223372036854775807 = (rg a : Int) := by rw [and63, rg_cast]
  go_enter Tryz.func131, Tryz.ntmps131
  go_wp2_with (go_at_call 175; refine (rmost_any _).mono ?_; rintro e w' ⟨rfl, rfl⟩)
  go_ret; exact ⟨rfl, rfl⟩
set_option maxHeartbeats 400000 in
theorem rkind_any (a : Int) (w : World) : Calls Tryz.prog 124 #[.int .i64 a] w fun e w' => e = .returned (.int .i64 (kd a)) ∧ w = w' := by
  have hl := rg_lt a
  have e2 : Int.tmod (rg a : Int) 4503599627370496 = (rg a : Int) % 4503599627370496 := Int.tmod_eq_emod_of_nonneg (by omega)
  go_enter Tryz.func124, Tryz.ntmps124
  go_wp2_with (go_at_call 131; refine (rplain_any _ _).mono ?_; rintro e w' ⟨rfl, rfl⟩)
  all_goals go_ret
  all_goals
    refine ⟨?_, rfl⟩
    refine congrArg (fun x => Ending.returned (Value.int .i64 x)) ?_
    have hi : infR = 9218868437227405312 := rfl
    unfold kd
    repeat' split
    all_goals first | omega | (simp_all; done) | (simp_all; omega) | skip

set_option maxHeartbeats 400000 in
theorem rcanon_any (a : Int) (w : World) : Calls Tryz.prog 111 #[.int .i64 a] w fun e w' => e = .returned (.int .i64 (canon a)) ∧ w = w' := by
  by_cases h : infR < rg a
  · have e1 : kd a = 0 := (kd_zero a).2 h
    have e2 : canon a = 9221120237041090561 := by unfold canon; rw [if_pos h]; rfl
    rw [e2]; clear e2
    go_enter Tryz.func111, Tryz.ntmps111
    go_wp2_with (first | (go_at_call 124; refine (rkind_any _ _).mono ?_; rintro e w' ⟨rfl, rfl⟩) | (go_at_call 129; refine (rnan_any _).mono ?_; rintro e w' ⟨rfl, rfl⟩))
    go_ret; exact ⟨rfl, rfl⟩
  · have e1 : (kd a == 0) = false := by rw [beq_eq_false_iff_ne]; exact fun g => h ((kd_zero a).1 g)
    have e2 : canon a = a := by unfold canon; rw [if_neg h]
    rw [e2]; clear e2
    go_enter Tryz.func111, Tryz.ntmps111
    go_wp2_with (first | (go_at_call 124; refine (rkind_any _ _).mono ?_; rintro e w' ⟨rfl, rfl⟩) | (go_at_call 129; refine (rnan_any _).mono ?_; rintro e w' ⟨rfl, rfl⟩))
    all_goals go_ret
    all_goals first | exact ⟨rfl, rfl⟩ | skip
end Go.Proofs.YtnilempeldlieaaGreat
namespace Go.Proofs.YtnilempeldlieaaGreat
open Go.RowKit

structure Ob where
  cls : Int
  kind : Int
  slots : List Int
  text : ByteArray
  bits : Int
  hash : Int

structure Hp where
  objs : List Ob
  cap : Int
  last : Int

def IntsR (w : World) (A : Option Addr) (xs : List Int) : Prop :=
  0 < xs.length → ∃ b o, A = some ⟨b, o, none⟩ ∧ b < w.heap.size ∧ ∀ j x, xs[j]? = some x → w.cell? ⟨b, o + j, none⟩ = some (.int .i64 x)

structure ObC (w : World) (b off : Nat) (S : Option Addr) (c : Nat) (o : Ob) : Prop where
  c0 : w.cell? ⟨b, off, none⟩ = some (.int .i64 o.cls)
  c1 : w.cell? ⟨b, off + 1, none⟩ = some (.int .i64 o.kind)
  c2 : w.cell? ⟨b, off + 2, none⟩ = some (.slice S o.slots.length c)
  c3 : w.cell? ⟨b, off + 3, none⟩ = some (.string o.text)
  c4 : w.cell? ⟨b, off + 4, none⟩ = some (.int .i64 o.bits)
  c5 : w.cell? ⟨b, off + 5, none⟩ = some (.int .i64 o.hash)

def ObsR (w : World) (A : Option Addr) (os : List Ob) : Prop :=
  0 < os.length → ∃ b off, A = some ⟨b, off, none⟩ ∧ b < w.heap.size ∧
    ∀ i o, os[i]? = some o → ∃ S c, ObC w b (off + i * 6) S c o ∧ IntsR w S o.slots ∧ o.slots.length ≤ c ∧ (S = none → c = 0)

def Ob.Fit (o : Ob) : Prop := o.slots.length ≤ 9223372036854775807
def Hp.Fit (h : Hp) : Prop := h.objs.length ≤ 9223372036854775807 ∧ ∀ o ∈ h.objs, o.Fit

theorem IntsR.below {w w' : World} {A : Option Addr} {xs : List Int} (h : IntsR w A xs) (hb : Below w.heap.size w w') : IntsR w' A xs := fun hn => by
  obtain ⟨b, o, e, hlt, hc⟩ := h hn
  exact ⟨b, o, e, Nat.lt_of_lt_of_le hlt hb.size, fun j x hx => (hb.cell (p := ⟨b, o + j, none⟩) hlt).trans (hc j x hx)⟩
theorem ObC.below {w w' : World} {b off : Nat} {S : Option Addr} {c : Nat} {o : Ob} (h : ObC w b off S c o) (hlt : b < w.heap.size) (hb : Below w.heap.size w w') : ObC w' b off S c o :=
  ⟨(hb.cell (p := ⟨b, _, none⟩) hlt).trans h.c0, (hb.cell (p := ⟨b, _, none⟩) hlt).trans h.c1, (hb.cell (p := ⟨b, _, none⟩) hlt).trans h.c2,
    (hb.cell (p := ⟨b, _, none⟩) hlt).trans h.c3, (hb.cell (p := ⟨b, _, none⟩) hlt).trans h.c4, (hb.cell (p := ⟨b, _, none⟩) hlt).trans h.c5⟩
theorem ObsR.below {w w' : World} {A : Option Addr} {os : List Ob} (h : ObsR w A os) (hb : Below w.heap.size w w') : ObsR w' A os := fun hn => by
  obtain ⟨b, o, e, hlt, hc⟩ := h hn
  refine ⟨b, o, e, Nat.lt_of_lt_of_le hlt hb.size, fun i ob hi => ?_⟩
  obtain ⟨S, c, h1, h2, h3⟩ := hc i ob hi
  exact ⟨S, c, h1.below hlt hb, h2.below hb, h3⟩


def refB (n : Nat) (v : Int) : Bool := atB v && decide (atV v < n)
def refV (n : Nat) (v : Int) : Int := if refB n v then atV v else 0
def refI (n : Nat) (v : Int) : Int := if refB n v then atV v else -1
def hasB (n : Nat) (v : Int) : Bool := nB v || refB n v
def haB (v : Int) : Bool := decide (0 ≤ v ∧ v < 1073741824)
def nxI (v : Int) : Int := if haB v then (v * 69069 + 12345) % 1073741824 else 0

theorem refB_no {n : Nat} {v : Int} (h : refB n v = true) : atB v = true ∧ 0 ≤ atV v ∧ atV v < n := by
  unfold refB at h
  simp only [Bool.and_eq_true, decide_eq_true_eq] at h
  exact ⟨h.1, (atV_lt h.1).1, h.2⟩
theorem refI_nonneg {n : Nat} {v : Int} (h : refB n v = true) : refI n v = atV v := by unfold refI; rw [if_pos h]

theorem rref_any (h : Hp) (v : Int) (A : Option Addr) (c : Nat) (w : World) :
    Calls Tryz.prog 32 #[.agg #[.slice A h.objs.length c, .int .i64 h.cap, .int .i64 h.last], .int .i64 v] w fun e w' => e = .returned (.int .i64 (refI h.objs.length v)) ∧ Below w.heap.size w w' := by
  have HB := hid (below_alloc w (.cells #[Value.slice A h.objs.length c, Value.int .i64 h.cap, Value.int .i64 h.last] 24))
  go_enter Tryz.func32, Tryz.ntmps32
  go_wp2_with (go_at_call 60; refine (rat_any _ _).mono ?_; rintro e w' ⟨rfl, rfl⟩)
  all_goals go_ret
  all_goals
    refine ⟨?_, HB.out⟩
    refine congrArg (fun x => Ending.returned (Value.int .i64 x)) ?_
    simp_all [refI, refB]
    try omega
theorem find_any (h : Hp) (v : Int) (A : Option Addr) (c : Nat) (w : World) :
    Calls Tryz.prog 107 #[.agg #[.slice A h.objs.length c, .int .i64 h.cap, .int .i64 h.last], .int .i64 v] w fun e w' => e = .returned (.tuple #[.int .i64 (refV h.objs.length v), .bool (refB h.objs.length v)]) ∧ Below w.heap.size w w' := by
  have HB := hid (below_alloc w (.cells #[Value.slice A h.objs.length c, Value.int .i64 h.cap, Value.int .i64 h.last] 24))
  go_enter Tryz.func107, Tryz.ntmps107
  go_wp2_with (go_at_call 110; refine (at_any _ _).mono ?_; rintro e w' ⟨rfl, rfl⟩)
  all_goals go_ret2
  all_goals
    refine ⟨?_, HB.out⟩
    refine congrArg (fun x => Ending.returned (Value.tuple x)) ?_
    simp_all [refV, refB]
    try omega
theorem rhas_any (h : Hp) (v : Int) (A : Option Addr) (c : Nat) (w : World) :
    Calls Tryz.prog 35 #[.agg #[.slice A h.objs.length c, .int .i64 h.cap, .int .i64 h.last], .int .i64 v] w fun e w' => e = .returned (.bool (hasB h.objs.length v)) ∧ Below w.heap.size w w' := by
  have HB := hid (below_alloc w (.cells #[Value.slice A h.objs.length c, Value.int .i64 h.cap, Value.int .i64 h.last] 24))
  cases hn : nB v
  · cases hr : refB h.objs.length v
    · have e1 : refI h.objs.length v = -1 := by simp [refI, hr]
      have e2 : hasB h.objs.length v = false := by simp [hasB, hr, hn]
      rw [e2]; clear e2
      go_enter Tryz.func35, Tryz.ntmps35
      go_wp2_with (first | (go_at_call 67; refine (rn_any _ _).mono ?_; rintro e w' ⟨rfl, rfl⟩) | (go_at_call 32; refine (rref_any h _ A c _).mono ?_; rintro e w' ⟨rfl, hb⟩))
      go_ret
      exact ⟨rfl, HB.out.trans (hb.mono (by simp))⟩
    · have e1 := refI_nonneg hr
      have e2 : hasB h.objs.length v = true := by simp [hasB, hr, hn]
      have e3 := (refB_no hr).2.1
      rw [e2]; clear e2
      go_enter Tryz.func35, Tryz.ntmps35
      go_wp2_with (first | (go_at_call 67; refine (rn_any _ _).mono ?_; rintro e w' ⟨rfl, rfl⟩) | (go_at_call 32; refine (rref_any h _ A c _).mono ?_; rintro e w' ⟨rfl, hb⟩))
      go_ret
      exact ⟨rfl, HB.out.trans (hb.mono (by simp))⟩
  · have e2 : hasB h.objs.length v = true := by simp [hasB, hn]
    rw [e2]; clear e2
    go_enter Tryz.func35, Tryz.ntmps35
    go_wp2_with (first | (go_at_call 67; refine (rn_any _ _).mono ?_; rintro e w' ⟨rfl, rfl⟩) | (go_at_call 32; refine (rref_any h _ A c _).mono ?_; rintro e w' ⟨rfl, hb⟩))
    go_ret
    exact ⟨rfl, HB.out⟩
theorem isval_any (h : Hp) (v : Int) (A : Option Addr) (c : Nat) (w : World) :
    Calls Tryz.prog 105 #[.agg #[.slice A h.objs.length c, .int .i64 h.cap, .int .i64 h.last], .int .i64 v] w fun e w' => e = .returned (.bool (hasB h.objs.length v)) ∧ Below w.heap.size w w' := by
  have HB := hid (below_alloc w (.cells #[Value.slice A h.objs.length c, Value.int .i64 h.cap, Value.int .i64 h.last] 24))
  cases hn : nB v
  · have e2 : hasB h.objs.length v = refB h.objs.length v := by simp [hasB, hn]
    rw [e2]; clear e2
    go_enter Tryz.func105, Tryz.ntmps105
    go_wp2_with (first | (go_at_call 164; refine (n_any _ _).mono ?_; rintro e w' ⟨rfl, rfl⟩) | (go_at_call 107; refine (find_any h _ A c _).mono ?_; rintro e w' ⟨rfl, hb⟩))
    go_ret
    exact ⟨rfl, HB.out.trans (hb.mono (by simp))⟩
  · have e2 : hasB h.objs.length v = true := by simp [hasB, hn]
    rw [e2]; clear e2
    go_enter Tryz.func105, Tryz.ntmps105
    go_wp2_with (first | (go_at_call 164; refine (n_any _ _).mono ?_; rintro e w' ⟨rfl, rfl⟩) | (go_at_call 107; refine (find_any h _ A c _).mono ?_; rintro e w' ⟨rfl, hb⟩))
    go_ret
    exact ⟨rfl, HB.out⟩
theorem ishash_any (v : Int) (w : World) : Calls Tryz.prog 103 #[.int .i64 v] w fun e w' => e = .returned (.bool (haB v)) ∧ w = w' := by
  by_cases h1 : 0 ≤ v
  · have e : haB v = decide (v ≤ 1073741823) := by unfold haB; rw [decide_eq_decide]; omega
    rw [e]; clear e
    go_enter Tryz.func103, Tryz.ntmps103
    go_wp2
    go_ret; exact ⟨rfl, rfl⟩
  · have e : haB v = false := by simp [haB, h1]
    rw [e]; clear e
    have h1' : v < 0 := by omega
    go_enter Tryz.func103, Tryz.ntmps103
    go_wp2
    go_ret; exact ⟨rfl, rfl⟩
theorem rhash_any (v : Int) (w : World) : Calls Tryz.prog 59 #[.int .i64 v] w fun e w' => e = .returned (.bool (haB v)) ∧ w = w' := by
  by_cases h1 : 0 ≤ v
  · have e : haB v = decide (v < 1073741824) := by unfold haB; rw [decide_eq_decide]; omega
    rw [e]; clear e
    go_enter Tryz.func59, Tryz.ntmps59
    go_wp2
    go_ret; exact ⟨rfl, rfl⟩
  · have e : haB v = false := by simp [haB, h1]
    rw [e]; clear e
    have h1' : v < 0 := by omega
    go_enter Tryz.func59, Tryz.ntmps59
    go_wp2
    go_ret; exact ⟨rfl, rfl⟩
theorem next_any (v : Int) (w : World) : Calls Tryz.prog 234 #[.int .i64 v] w fun e w' => e = .returned (.int .i64 (nxI v)) ∧ w = w' := by
  cases hh : haB v
  · have e : nxI v = 0 := by simp [nxI, hh]
    rw [e]; clear e
    go_enter Tryz.func234, Tryz.ntmps234
    go_wp2_with (go_at_call 103; refine (ishash_any _ _).mono ?_; rintro e w' ⟨rfl, rfl⟩)
    go_ret; exact ⟨rfl, rfl⟩
  · have e : nxI v = bits .and .i64 (v * 69069 + 12345) 1073741823 := by rw [and30]; simp [nxI, hh]
    have hb : 0 ≤ v ∧ v < 1073741824 := by simpa [haB] using hh
    have h1 := hb.1
    have h2 := hb.2
    clear hb
    rw [e]; clear e
    go_enter Tryz.func234, Tryz.ntmps234
    go_wp2_with (go_at_call 103; refine (ishash_any _ _).mono ?_; rintro e w' ⟨rfl, rfl⟩)
    go_ret; exact ⟨rfl, rfl⟩
theorem rnext_any (v : Int) (w : World) : Calls Tryz.prog 172 #[.int .i64 v] w fun e w' => e = .returned (.int .i64 (nxI v)) ∧ w = w' := by
  cases hh : haB v
  · have e : nxI v = 0 := by simp [nxI, hh]
    rw [e]; clear e
    go_enter Tryz.func172, Tryz.ntmps172
    go_wp2_with (go_at_call 59; refine (rhash_any _ _).mono ?_; rintro e w' ⟨rfl, rfl⟩)
    go_ret; exact ⟨rfl, rfl⟩
  · have e : nxI v = (v * 69069 + 12345) % 1073741824 := by simp [nxI, hh]
    have hb : 0 ≤ v ∧ v < 1073741824 := by simpa [haB] using hh
    have h1 := hb.1
    have h2 := hb.2
    clear hb
    rw [e]; clear e
    go_enter Tryz.func172, Tryz.ntmps172
    go_wp2_with (go_at_call 59; refine (rhash_any _ _).mono ?_; rintro e w' ⟨rfl, rfl⟩)
    go_ret; exact ⟨rfl, rfl⟩
end Go.Proofs.YtnilempeldlieaaGreat
