/- What every text begins with: hidden facts, memory that is older than the call, blocks of cells, rows of the call's own. -/
import Derived.Test.YtimmoaomhilaeaaRows
import Derived.Laws.BitsLemmas
import Derived.WalkKit
import Derived.BigQuiet
import Derived.Deep.QuietTactic
import Derived.Deep.DeepFit
import Derived.Outline
import Derived.WalkSpells
import Derived.WalkLawsBesides
import Derived.Deep.RegionHeld3
namespace Go.Proofs.Ytimmoaomhilaeaa
open Go.RowKit
/-- an operation of a drawn region that comes up first -/
theorem tk12 {P : Program} {md : Region.Mode} {ops : Array Oper} {Q : Exit → Act → World → Prop} {S : World → Prop} {i : Nat} {oi : Oper} {v : Value} {fuel : Nat} {listed : Array Bool} {a : Act} {w : World} (hi : ops[i]? = some oi)
    (hk : (Region.noSelect ops && (Region.free md ops listed i && (Region.ready md ops listed).contains i)) = true) (hy : YieldsIf P ops S oi v a)
    (h : wpAnyH P md ops Q S fuel (listed.setIfInBounds i true) (a.put oi.dst v) w) (hQ : ∀ c a w, Q (.panic c) (a.put oi.dst v) w → Q (.panic c) a w := by exact fun _ _ _ h => h) (hS : S w := by assumption) : wpAnyH P md ops Q S (fuel + 1) listed a w := by
  simp only [Bool.and_eq_true] at hk
  exact wpAnyH_take hi hk.1 hk.2.1 hk.2.2 hQ hy hS h
theorem apt12 : (∀ (a : Act) (v : Value), a.put none v = a) ∧ (∀ (t : Array Value) (ds : _) (d : Nat) (v : Value), Act.put ⟨t, ds⟩ (some d) v = ⟨t.setIfInBounds d v, ds⟩) ∧
    (∀ (l : List Value) (i : Nat) (v : Value), l.toArray.setIfInBounds i v = (l.set i v).toArray) ∧ (∀ (l : List Value) (x v : Value), (x :: l).set 0 v = v :: l) ∧ (∀ (l : List Value) (x v : Value) (i : Nat), (x :: l).set (i + 1) v = x :: l.set i v) :=
  ⟨fun _ _ => rfl, fun _ _ _ _ => rfl, fun _ _ _ => List.setIfInBounds_toArray .., fun _ _ _ => rfl, fun _ _ _ _ => rfl⟩
theorem tkI {P : Program} {md : Region.Mode} {ops : Array Oper} {Q : Exit → Act → World → Prop} {S : World → Prop} {fuel : Nat} {listed : Array Bool} {a : Act} {w : World} (i : Nat) (oi : Oper) (v : Value) (hi : ops[i]? = some oi)
    (hk : (Region.noSelect ops && (Region.free md ops listed i && (Region.ready md ops listed).contains i)) = true) (hw : Region.wanted oi (yielded ops a.tmps) = true) (hy : ∀ w, S w → (execOp a.eval oi).run P w = .ok (.value v) w)
    (h : wpAnyH P md ops Q S fuel (listed.setIfInBounds i true) (a.put oi.dst v) w) (hQ : ∀ c a w, Q (.panic c) (a.put oi.dst v) w → Q (.panic c) a w := by exact fun _ _ _ h => h) (hS : S w := by assumption) : wpAnyH P md ops Q S (fuel + 1) listed a w :=
  tk12 hi hk (.inl ⟨hw, hy⟩) h hQ hS
theorem tkO {P : Program} {md : Region.Mode} {ops : Array Oper} {Q : Exit → Act → World → Prop} {S : World → Prop} {fuel : Nat} {listed : Array Bool} {a : Act} {w : World} (i : Nat) (oi : Oper) (hi : ops[i]? = some oi)
    (hk : (Region.noSelect ops && (Region.free md ops listed i && (Region.ready md ops listed).contains i)) = true) (hw : Region.wanted oi (yielded ops a.tmps) = false)
    (h : wpAnyH P md ops Q S fuel (listed.setIfInBounds i true) (a.put oi.dst undef) w) (hQ : ∀ c a w, Q (.panic c) (a.put oi.dst undef) w → Q (.panic c) a w := by exact fun _ _ _ h => h) (hS : S w := by assumption) : wpAnyH P md ops Q S (fuel + 1) listed a w :=
  tk12 hi hk (.inr ⟨hw, rfl⟩) h hQ hS
theorem hid {p : Prop} (h : p) : Go.RowKit.Hid p := h
theorem below_alloc (w : World) (o : Obj) : Below w.heap.size w (w.alloc o) := (Below.refl _ _).alloc (Nat.le_refl _) _
theorem below_alloc_go {w w' : World} {o : Obj} (h : Below (w.alloc o).heap.size (w.alloc o) w') : Below w.heap.size w w' := (below_alloc w o).trans (h.mono (by simp))
theorem bcell {W w1 : World} (hb : Below W.heap.size W w1) : (∀ b o, b < W.heap.size → w1.cell? ⟨b, o, none⟩ = W.cell? ⟨b, o, none⟩) ∧ (∀ b o, b < W.heap.size → w1.frozen? ⟨b, o, none⟩ = W.frozen? ⟨b, o, none⟩) :=
  ⟨fun b o h => hb.cell (p := ⟨b, o, none⟩) h, fun b o h => hb.frozen (p := ⟨b, o, none⟩) h⟩
theorem below_alloc2 (w : World) (o p : Obj) : Below w.heap.size w ((w.alloc o).alloc p) := (below_alloc w o).alloc (by simp) p
theorem cell_later {w w' : World} {p : Addr} {v : Value} (hb : Below w.heap.size w w') (h : w.cell? p = some v) : w'.cell? p = some v :=
  (hb.cell (World.block_lt_of_cell? w p h)).trans h
theorem cell_old {w : World} {p : Addr} {v : Value} {ob : Obj} (h : w.cell? p = some v) : (w.alloc ob).cell? p = some v := (World.cell?_alloc_lt w ob p (World.block_lt_of_cell? w p h)).trans h
/-- a slice of the call's own -/
def Fresh (w w' : World) (e : TypeId) (size n : Nat) (xs : List Value) (en : Ending) : Prop :=
  ∃ A c, en = .returned (.slice A n c) ∧ w'.ownsRow w.heap.size e size (.slice A n c) n xs ∧ Below w.heap.size w w'
theorem own_form {w : World} {base : Nat} {e : TypeId} {size n : Nat} {v : Value} {xs : List Value} (h : w.ownsRow base e size v n xs) : ∃ A c, v = .slice A n c := by
  rcases h.2 with ⟨rfl, rfl⟩ | ⟨g, cap, cur, rfl, _⟩
  · exact ⟨none, 0, rfl⟩
  · exact ⟨_, _, rfl⟩
/-- block g of the memory is just these cells of that type, none of them fixed -/
def Lies (w : World) (g : Nat) (t : TypeId) (cs : Array Value) : Prop := w.heap[g]? = some (.cells cs t (0, 0))
section
variable {w w' : World} {g : Nat} {t : TypeId} {cs : Array Value}
theorem Lies.lt (h : Lies w g t cs) : g < w.heap.size := (Array.getElem?_eq_some_iff.1 h).1
theorem Lies.cell (h : Lies w g t cs) (i : Nat) : w.cell? ⟨g, i, none⟩ = cs[i]? := by
  unfold Lies at h
  simp [World.cell?, h]
theorem Lies.frozen (h : Lies w g t cs) (i : Nat) : w.frozen? ⟨g, i, none⟩ = false := by
  unfold Lies at h
  simp [World.frozen?, h]
theorem Lies.below {B : Nat} (h : Lies w g t cs) (hb : Below B w w') (hg : g < B) : Lies w' g t cs := (hb.block g hg).trans h
theorem Lies.later (h : Lies w g t cs) (hb : Below w.heap.size w w') : Lies w' g t cs := h.below hb h.lt
theorem Lies.new (w : World) (t : TypeId) (cs : Array Value) : Lies (w.alloc (.cells cs t)) w.heap.size t cs := by
  show (w.heap.push _)[w.heap.size]? = _
  simp
theorem Lies.drew (h : Lies w g t cs) : Lies w.drew g t cs := h.later (Below.refl _ _).drew
theorem Lies.alloc (h : Lies w g t cs) (o : Obj) : Lies (w.alloc o) g t cs := h.later (below_alloc w o)
theorem Lies.far (h : Lies w g t cs) {p : Addr} (hp : g ≠ p.block) (u : Value) : Lies (w.setCell p u) g t cs := by
  show (w.setCell p u).heap[g]? = _
  rw [Below.heap_setCell w p u g hp]; exact h
theorem Lies.set_ (h : Lies w g t cs) (i : Nat) (u : Value) : Lies (w.setCell ⟨g, i, none⟩ u) g t (cs.setIfInBounds i u) := by
  have h' : w.heap[g]? = some (.cells cs t (0, 0)) := h
  show (w.setCell ⟨g, i, none⟩ u).heap[g]? = _
  simp [World.setCell, Array.getElem?_modify, h']
theorem own_blk_ne {base : Nat} {e : TypeId} {size n : Nat} {v : Value} {xs : List Value} (h : w.ownsRow base e size v n xs) (hg : Lies w g t cs) (hne : e ≠ t) : v.ownBlock ≠ some g := fun he => by
  rcases h.2 with ⟨e0, _⟩ | ⟨b, cap, cur, e0, _, hh, _⟩
  · rw [e0] at he; cases he
  · rw [e0] at he
    obtain rfl : b = g := by simpa [Value.ownBlock] using he
    have h2 : some (Obj.cells cur e (0, 0)) = some (Obj.cells cs t (0, 0)) := hh.symm.trans hg
    cases h2
    exact hne rfl
theorem own_blk {base : Nat} {e : TypeId} {size n c b o : Nat} {s : Option Nat} {xs : List Value} (h : w.ownsRow base e size (.slice (some ⟨b, o, s⟩) n c) n xs) : ∃ cur, Lies w b e cur ∧ o = 0 ∧ s = none ∧ base ≤ b := by
  rcases h.2 with ⟨h', _⟩ | ⟨g', cap, cur, h', hb, hh, _⟩
  · cases h'
  · simp only [Value.slice.injEq, Option.some.injEq, Addr.mk.injEq, true_and] at h'
    obtain ⟨⟨rfl, rfl, rfl⟩, _⟩ := h'
    exact ⟨cur, hh, rfl, rfl, hb⟩
end
theorem own_later {w w' : World} {base : Nat} {e : TypeId} {size n : Nat} {v : Value} {xs : List Value} (h : w.ownsRow base e size v n xs) (hb : Below w.heap.size w w') : w'.ownsRow base e size v n xs :=
  h.kept (row := none) ⟨hb.os, hb.tape, hb.output, hb.size, fun k hk _ => hb.block k hk⟩ (by cases hv : v.ownBlock <;> simp)
theorem own_lower {w : World} {base base' : Nat} {e : TypeId} {size n : Nat} {v : Value} {xs : List Value} (h : w.ownsRow base e size v n xs) (hb : base' ≤ base) : w.ownsRow base' e size v n xs := by
  refine ⟨h.1, ?_⟩
  rcases h.2 with hn | ⟨g, cap, cur, hv, hg, hr⟩
  · exact .inl hn
  · exact .inr ⟨g, cap, cur, hv, by omega, hr⟩
theorem own_nil {w : World} {base : Nat} {e : TypeId} {size n c m : Nat} {S : Option Addr} {xs : List Value} (h : w.ownsRow base e size (.slice S m c) n xs) : S = none → c = 0 := by
  rintro rfl
  rcases h.2 with ⟨h', hn⟩ | ⟨g, cap, cur, h', _⟩
  · cases h'; rfl
  · cases h'
theorem own_cap {w : World} {base : Nat} {e : TypeId} {size n c m : Nat} {S : Option Addr} {xs : List Value} (h : w.ownsRow base e size (.slice S m c) n xs) : n ≤ c := by
  rcases h.2 with ⟨h', hn⟩ | ⟨g, cap, cur, h', _, _, hc, _⟩
  · cases h'; omega
  · cases h'; omega
theorem then_w {w v w' : World} (h : Below w.heap.size w v) (hb : Below v.heap.size v w') : Below w.heap.size w w' := h.trans (hb.mono h.size)
theorem lies_ne {w : World} {g g' : Nat} {t t' : TypeId} {cs cs' : Array Value} (h : Lies w g t cs) (h' : Lies w g' t' cs') (e : t ≠ t') : g ≠ g' := fun eq => by
  subst eq
  have := h.symm.trans h'
  injection this with this
  injection this with _ this
  exact e this
theorem Lies.c2 {w : World} {g : Nat} {t : TypeId} {a0 b0 : Value} (h : Lies w g t #[a0, b0]) : w.cell? ⟨g, 0, none⟩ = some a0 ∧ w.cell? ⟨g, 1, none⟩ = some b0 := ⟨h.cell 0, h.cell 1⟩
theorem Lies.f2 {w : World} {g : Nat} {t : TypeId} {a0 b0 : Value} (h : Lies w g t #[a0, b0]) : w.frozen? ⟨g, 0, none⟩ = false ∧ w.frozen? ⟨g, 1, none⟩ = false := ⟨h.frozen 0, h.frozen 1⟩
theorem Lies.c3 {w : World} {g : Nat} {t : TypeId} {a0 b0 c0 : Value} (h : Lies w g t #[a0, b0, c0]) : w.cell? ⟨g, 0, none⟩ = some a0 ∧ w.cell? ⟨g, 1, none⟩ = some b0 ∧ w.cell? ⟨g, 2, none⟩ = some c0 := ⟨h.cell 0, h.cell 1, h.cell 2⟩
theorem Lies.f3 {w : World} {g : Nat} {t : TypeId} {a0 b0 c0 : Value} (h : Lies w g t #[a0, b0, c0]) : w.frozen? ⟨g, 0, none⟩ = false ∧ w.frozen? ⟨g, 1, none⟩ = false ∧ w.frozen? ⟨g, 2, none⟩ = false := ⟨h.frozen 0, h.frozen 1, h.frozen 2⟩
theorem Lies.c5 {w : World} {g : Nat} {t : TypeId} {a0 b0 c0 d0 e0 : Value} (h : Lies w g t #[a0, b0, c0, d0, e0]) : w.cell? ⟨g, 0, none⟩ = some a0 ∧ w.cell? ⟨g, 1, none⟩ = some b0 ∧ w.cell? ⟨g, 2, none⟩ = some c0 ∧ w.cell? ⟨g, 3, none⟩ = some d0 ∧ w.cell? ⟨g, 4, none⟩ = some e0 := ⟨h.cell 0, h.cell 1, h.cell 2, h.cell 3, h.cell 4⟩
theorem Lies.f5 {w : World} {g : Nat} {t : TypeId} {a0 b0 c0 d0 e0 : Value} (h : Lies w g t #[a0, b0, c0, d0, e0]) : w.frozen? ⟨g, 0, none⟩ = false ∧ w.frozen? ⟨g, 1, none⟩ = false ∧ w.frozen? ⟨g, 2, none⟩ = false ∧ w.frozen? ⟨g, 3, none⟩ = false ∧ w.frozen? ⟨g, 4, none⟩ = false := ⟨h.frozen 0, h.frozen 1, h.frozen 2, h.frozen 3, h.frozen 4⟩
theorem Lies.c6 {w : World} {g : Nat} {t : TypeId} {a0 b0 c0 d0 e0 f0 : Value} (h : Lies w g t #[a0, b0, c0, d0, e0, f0]) : w.cell? ⟨g, 0, none⟩ = some a0 ∧ w.cell? ⟨g, 1, none⟩ = some b0 ∧ w.cell? ⟨g, 2, none⟩ = some c0 ∧ w.cell? ⟨g, 3, none⟩ = some d0 ∧ w.cell? ⟨g, 4, none⟩ = some e0 ∧ w.cell? ⟨g, 5, none⟩ = some f0 := ⟨h.cell 0, h.cell 1, h.cell 2, h.cell 3, h.cell 4, h.cell 5⟩
theorem Lies.f6 {w : World} {g : Nat} {t : TypeId} {a0 b0 c0 d0 e0 f0 : Value} (h : Lies w g t #[a0, b0, c0, d0, e0, f0]) : w.frozen? ⟨g, 0, none⟩ = false ∧ w.frozen? ⟨g, 1, none⟩ = false ∧ w.frozen? ⟨g, 2, none⟩ = false ∧ w.frozen? ⟨g, 3, none⟩ = false ∧ w.frozen? ⟨g, 4, none⟩ = false ∧ w.frozen? ⟨g, 5, none⟩ = false := ⟨h.frozen 0, h.frozen 1, h.frozen 2, h.frozen 3, h.frozen 4, h.frozen 5⟩
theorem Lies.c9 {w : World} {g : Nat} {t : TypeId} {a0 b0 c0 d0 e0 f0 g0 h0 i0 : Value} (h : Lies w g t #[a0, b0, c0, d0, e0, f0, g0, h0, i0]) : w.cell? ⟨g, 0, none⟩ = some a0 ∧ w.cell? ⟨g, 1, none⟩ = some b0 ∧ w.cell? ⟨g, 2, none⟩ = some c0 ∧ w.cell? ⟨g, 3, none⟩ = some d0 ∧ w.cell? ⟨g, 4, none⟩ = some e0 ∧ w.cell? ⟨g, 5, none⟩ = some f0 ∧ w.cell? ⟨g, 6, none⟩ = some g0 ∧ w.cell? ⟨g, 7, none⟩ = some h0 ∧ w.cell? ⟨g, 8, none⟩ = some i0 := ⟨h.cell 0, h.cell 1, h.cell 2, h.cell 3, h.cell 4, h.cell 5, h.cell 6, h.cell 7, h.cell 8⟩
theorem Lies.f9 {w : World} {g : Nat} {t : TypeId} {a0 b0 c0 d0 e0 f0 g0 h0 i0 : Value} (h : Lies w g t #[a0, b0, c0, d0, e0, f0, g0, h0, i0]) : w.frozen? ⟨g, 0, none⟩ = false ∧ w.frozen? ⟨g, 1, none⟩ = false ∧ w.frozen? ⟨g, 2, none⟩ = false ∧ w.frozen? ⟨g, 3, none⟩ = false ∧ w.frozen? ⟨g, 4, none⟩ = false ∧ w.frozen? ⟨g, 5, none⟩ = false ∧ w.frozen? ⟨g, 6, none⟩ = false ∧ w.frozen? ⟨g, 7, none⟩ = false ∧ w.frozen? ⟨g, 8, none⟩ = false := ⟨h.frozen 0, h.frozen 1, h.frozen 2, h.frozen 3, h.frozen 4, h.frozen 5, h.frozen 6, h.frozen 7, h.frozen 8⟩
theorem cell_far {w : World} {g j g' o : Nat} {u v : Value} (hne : g' ≠ g) (h : w.cell? ⟨g', o, none⟩ = some v) : (w.setCell ⟨g, j, none⟩ u).cell? ⟨g', o, none⟩ = some v :=
  (World.cell?_setCell_other _ _ _ _ (by intro e; injection e with e1; exact hne e1.symm)).trans h
end Go.Proofs.Ytimmoaomhilaeaa
