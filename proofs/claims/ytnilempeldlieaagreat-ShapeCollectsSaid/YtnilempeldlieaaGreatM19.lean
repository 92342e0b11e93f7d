/- Heaps that may be are small. What was written is read at its place, and all else is as it was: over plain heaps. How a law's row is closed behind its walk, over any program: where the call has left all old memory as it was ('Below'), the arguments read as they read before, and the answer is true. Arguments opened: a heap, whatever it has, reads as a plain heap; an asking as three numbers. A state among the arguments, opened. -/
import Derived.Test.YtnilempeldlieaaGreatM05
import Derived.Test.YtnilempeldlieaaGreatM04
import Derived.Below
import Derived.Carry
import Derived.ProofKit
import Derived.OpenShut
import Derived.Lib.SmallJoins
import Derived.Deep.Slices
import Derived.Deep.Fields
import Derived.Test.YtnilempeldlieaaGreatM08
namespace Go.Proofs.YtnilempeldlieaaGreat
open Go.RowKit
theorem fitZ : zeroH.Fit := ⟨Nat.zero_le _, fun o ho => by simp [zeroH] at ho⟩
theorem may_fit {h : Hp} (hm : mayB h = true) : h.Fit :=
  ⟨by have := may_len hm; omega, fun o ho => by have := (kind_len (ob_kind (may_all hm o ho))).1; show o.slots.length ≤ _; omega⟩
end Go.Proofs.YtnilempeldlieaaGreat
namespace Go.Proofs.YtnilempeldlieaaGreat
open Go.RowKit
theorem atB_eq {u v : Int} (hu : atB u = true) (hv : atB v = true) (h : atV u = atV v) : u = v := by
  have h1 := atB_iff.1 hu
  have h2 := atB_iff.1 hv
  unfold atV at h
  rw [if_pos hu, if_pos hv] at h
  omega
/-- one object in another's place -/
def putO (h : Hp) (i : Nat) (o : Ob) : Hp := { h with objs := h.objs.set i o }
theorem putO_len (h : Hp) (i : Nat) (o : Ob) : (putO h i o).objs.length = h.objs.length := by simp [putO]
theorem putO_may {h : Hp} (hm : mayB h = true) {i : Nat} {o : Ob} (ho : obB h.objs.length o = true) : mayB (putO h i o) = true := by
  have hm' := hm
  unfold mayB at hm ⊢
  rw [putO_len]
  simp only [Bool.and_eq_true] at hm ⊢
  refine ⟨hm.1, List.all_eq_true.2 fun p hp => ?_⟩
  rcases List.mem_or_eq_of_mem_set hp with h1 | h1
  · exact may_all hm' p h1
  · rw [h1]; exact ho
theorem obAt_put {h : Hp} {v u : Int} (hv : refB h.objs.length v = true) (hu : refB h.objs.length u = true) (o : Ob) : obAt (putO h (atV v).toNat o) u = if u = v then o else obAt h u := by
  obtain ⟨b1, c1, d1⟩ := refB_no hv
  obtain ⟨b2, c2, d2⟩ := refB_no hu
  unfold obAt putO
  rw [List.getD_eq_getElem?_getD, List.getD_eq_getElem?_getD]
  show ((h.objs.set _ o)[(atV u).toNat]?).getD default = _
  rw [List.getElem?_set]
  by_cases e : u = v
  · subst e; rw [if_pos rfl, if_pos (by omega), if_pos rfl]; rfl
  · rw [if_neg (fun g => e (atB_eq b2 b1 (by omega))), if_neg e]
theorem putO_back {h : Hp} {v : Int} (hv : refB h.objs.length v = true) (o : Ob) : putO (putO h (atV v).toNat o) (atV v).toNat (obAt h v) = h := by
  obtain ⟨i, hi, e, ho⟩ := obAt_get hv
  unfold putO
  rw [show (atV v).toNat = i by omega]
  simp only [List.set_set]
  have : h.objs.set i (obAt h v) = h.objs := by
    apply List.ext_getElem?
    intro j
    rw [List.getElem?_set]
    by_cases e : i = j
    · subst e; rw [if_pos rfl, if_pos hi, ho]
    · rw [if_neg e]
  rw [this]
theorem setH_put (h : Hp) (v k x : Int) : setH h v k x = putO h (atV v).toNat { obAt h v with slots := (obAt h v).slots.set k.toNat x } := rfl
structure Placed (h : Hp) (v k : Int) : Prop where
  may : mayB h = true
  ref : refB h.objs.length v = true
  kind : (obAt h v).kind = 0
  lo : 0 ≤ k
  hi : k.toNat < (obAt h v).slots.length
theorem placed {h : Hp} {v k : Int} (e : plE h v 0 k = 0) : Placed h v k := by
  obtain ⟨h1, h2, h3, h4, h5⟩ := pl_ok e
  refine ⟨h1, h2, h3, h4, ?_⟩
  unfold szO at h5
  rw [if_neg (by decide)] at h5
  omega
theorem ob_mem {h : Hp} {v : Int} (hv : refB h.objs.length v = true) : obAt h v ∈ h.objs := by
  obtain ⟨i, _, _, ho⟩ := obAt_get hv
  exact List.mem_of_getElem? ho
theorem slots_ob {n : Nat} {o : Ob} (h : obB n o = true) (hk : o.kind = 0) {j : Nat} {x : Int} (hx : hasB n x = true) : obB n { o with slots := o.slots.set j x } = true := by
  unfold obB at h ⊢
  simp only [Bool.and_eq_true] at h ⊢
  obtain ⟨⟨⟨h1, h2⟩, h3⟩, h4⟩ := h
  refine ⟨⟨⟨h1, h2⟩, ?_⟩, ?_⟩
  · unfold kiB at h3 ⊢
    rw [if_pos hk] at h3
    rw [if_pos hk]
    simpa using h3
  · refine List.all_eq_true.2 fun y hy => ?_
    rcases List.mem_or_eq_of_mem_set hy with g | g
    · exact List.all_eq_true.1 h4 y g
    · rw [g]; exact hx
theorem set_may {h : Hp} {v k x : Int} (p : Placed h v k) (hx : hasB h.objs.length x = true) : mayB (setH h v k x) = true := by
  rw [setH_put]
  exact putO_may p.may (slots_ob (may_all p.may _ (ob_mem p.ref)) p.kind hx)
theorem setH_len (h : Hp) (v k x : Int) : (setH h v k x).objs.length = h.objs.length := putO_len _ _ _
theorem set_plE {h : Hp} {v k x : Int} (p : Placed h v k) (hx : hasB h.objs.length x = true) (u kind l : Int) : plE (setH h v k x) u kind l = plE h u kind l := by
  unfold plE
  rw [set_may p hx, p.may, setH_len]
  by_cases hu : refB h.objs.length u = true
  · have e := obAt_put p.ref hu { obAt h v with slots := (obAt h v).slots.set k.toNat x }
    rw [← setH_put] at e
    rw [e]
    by_cases g : u = v
    · subst g
      rw [if_pos rfl]
      have e2 : szO kind { obAt h u with slots := (obAt h u).slots.set k.toNat x } = szO kind (obAt h u) := by unfold szO; rw [List.length_set]
      rw [e2]
    · rw [if_neg g]
  · simp only [Bool.not_eq_true] at hu
    simp [hu]
theorem set_get_x {h : Hp} {v k x : Int} (e : plE h v 0 k = 0) (hx : hasB h.objs.length x = true) : geV (setH h v k x) v k = x := by
  have p := placed e
  unfold geV
  rw [set_plE p hx, if_pos e, setH_put, obAt_put p.ref p.ref, if_pos rfl]
  have hi := p.hi
  simp [List.getD_eq_getElem?_getD, hi]
theorem set_back {h : Hp} {v k x : Int} (e : plE h v 0 k = 0) (_hx : hasB h.objs.length x = true) : setH (setH h v k x) v k (geV h v k) = h := by
  have p := placed e
  have h1 : obAt (setH h v k x) v = { obAt h v with slots := (obAt h v).slots.set k.toNat x } := by rw [setH_put, obAt_put p.ref p.ref, if_pos rfl]
  have h2 : geV h v k = (obAt h v).slots.getD k.toNat 0 := by unfold geV; rw [if_pos e]
  have h3 : ((obAt h v).slots.set k.toNat x).set k.toNat (geV h v k) = (obAt h v).slots := by
    rw [h2, List.set_set]
    apply List.ext_getElem?
    intro j
    rw [List.getElem?_set]
    by_cases g : k.toNat = j
    · subst g; rw [if_pos rfl, if_pos p.hi, getD_at _ _ p.hi]
    · rw [if_neg g]
  rw [setH_put (setH h v k x), h1]
  show putO (setH h v k x) (atV v).toNat { obAt h v with slots := ((obAt h v).slots.set k.toNat x).set k.toNat (geV h v k) } = h
  rw [h3, setH_put]
  exact putO_back p.ref _
theorem geV_has {h : Hp} {v k : Int} (e : plE h v 0 k = 0) : hasB h.objs.length (geV h v k) = true := by
  have p := placed e
  have h2 : geV h v k = (obAt h v).slots.getD k.toNat 0 := by unfold geV; rw [if_pos e]
  have ho := may_all p.may _ (ob_mem p.ref)
  unfold obB at ho
  simp only [Bool.and_eq_true] at ho
  rw [h2, List.getD_eq_getElem?_getD, List.getElem?_eq_getElem p.hi]
  exact List.all_eq_true.1 ho.2 _ (List.getElem_mem p.hi)
theorem set_other {h : Hp} {v k x u l : Int} (e : plE h v 0 k = 0) (hx : hasB h.objs.length x = true) : geV h u l = geV (setH h v k x) u l ∨ (v = u ∧ k = l) := by
  have p := placed e
  unfold geV
  rw [set_plE p hx]
  by_cases e2 : plE h u 0 l = 0
  · have p2 := placed e2
    rw [if_pos e2, if_pos e2, setH_put, obAt_put p.ref p2.ref]
    by_cases g : u = v
    · subst g
      rw [if_pos rfl]
      by_cases g2 : k = l
      · exact .inr ⟨rfl, g2⟩
      · left
        have h1 := p.lo
        have h2 := p2.lo
        show _ = ((obAt h u).slots.set k.toNat x).getD l.toNat 0
        rw [List.getD_eq_getElem?_getD, List.getD_eq_getElem?_getD, List.getElem?_set, if_neg (by omega)]
    · rw [if_neg g]; exact .inl rfl
  · rw [if_neg e2, if_neg e2]; exact .inl rfl
/-- all that the law asks -/
theorem keeps_no {h : Hp} (hm : mayB h = true) {v k x : Int} (e : plE h v 0 k ≠ 0) : setE h v k x = plE h v 0 k ∧ setR h v k x = h := by
  have h1 : setE h v k x = plE h v 0 k := by unfold setE; rw [if_neg e]
  refine ⟨h1, ?_⟩
  unfold setR; rw [h1, if_neg e]
  unfold unH
  rw [if_neg]
  intro g
  unfold plE at g
  rw [if_neg (by rw [hm]; decide)] at g
  repeat' split at g
  all_goals cases g
theorem keeps_ref {h : Hp} {v k x : Int} (e : plE h v 0 k = 0) (hx : hasB h.objs.length x = false) : setE h v k x = 31 ∧ setR h v k x = h := by
  have h1 : setE h v k x = 31 := by unfold setE; rw [if_pos e, hx]; rfl
  exact ⟨h1, by unfold setR; rw [h1, if_neg (by decide)]; unfold unH; rw [if_neg (by decide)]⟩
theorem keeps_ok {h : Hp} {v k x : Int} (e : plE h v 0 k = 0) (hx : hasB h.objs.length x = true) : setE h v k x = 0 ∧ setR h v k x = setH h v k x := by
  have h1 : setE h v k x = 0 := by unfold setE; rw [if_pos e, hx]; rfl
  exact ⟨h1, by unfold setR; rw [if_pos h1]⟩
end Go.Proofs.YtnilempeldlieaaGreat
namespace Go.Proofs.YtnilempeldlieaaGreat
open Go.RowKit Go.WideShapes Go.ChangeShapes
section
variable {H : Type} {enc : TypeId × Value → H} {P : Program}
theorem trodAll_later (hl : laidOutB P = true) {W W' : World} (hb : Below W.heap.size W W') :
    ∀ (ts : List TypeId) (vs : List Value) (ds : List (DataW H)) (ps : List MemPlace), ts.all (fun t => P.readableRec t && decide (t < P.types.size)) = true → (∀ x ∈ ps, x.block < W.heap.size) →
      DataW.TrodAll enc P W 0 (fun _ => true) true ts vs ds ps → DataW.TrodAll enc P W' 0 (fun b => decide (b < W.heap.size)) true ts vs ds ps
  | [], [], [], _, _, _, h => h
  | t :: ts, v :: vs, d :: ds, _, ht, hp, ⟨p, q, h1, h2, e⟩ => by
    subst e
    simp only [List.all_cons, Bool.and_eq_true, decide_eq_true_eq] at ht
    exact ⟨p, q, Below.trod hl ht.1.1 ht.1.2 h1 hb (fun x hx => hp x (List.mem_append_left _ hx)), trodAll_later hl hb ts vs ds q ht.2 (fun x hx => hp x (List.mem_append_right _ hx)) h2, rfl⟩
theorem law_post {f : Func} {s : ChangeSpec} {W W' : World} {args : Array Value} {ds : List (DataW H)} {before : List MemPlace} {tb : TypeId} (hl : laidOutB P = true)
    (hts : f.params.toList.all (fun t => P.readableRec t && decide (t < P.types.size)) = true) (hvars : s.vars = []) (hrt : f.resultTypes = #[tb]) (hub : P.underlying tb = some .bool)
    (hW : DataW.Whole enc P f.params.toList s.vars false W args.toList ds [] before) (hfn : s.fn H ds = { results := [.lit (.bool true)], args := ds }) (hb : Below W.heap.size W W') :
    s.post enc P f false true false false W args (.bool true) W' := by
  have hlt : ∀ x ∈ before, x.block < W.heap.size := fun x hx => hW.lt x hx
  have hW' := hW
  obtain ⟨p, q, hA, hV, e, -, -⟩ := hW
  rw [hvars] at hV
  obtain ⟨-, rfl⟩ := trodVars_none hV
  rw [List.append_nil] at e
  subst e
  refine ⟨ds, [], before, [], before, [], hW', ?_, ?_, ?_, hb.frame _, fun h => by cases h⟩
  · rw [List.append_nil, hfn, hrt]
    exact trodAll_mk1 (shut_bool hub _)
  · rw [List.append_nil, hfn]
    exact trodAll_later hl hb _ _ _ _ hts hlt hA
  · rw [List.append_nil, hfn, hvars]
    exact rfl
end
end Go.Proofs.YtnilempeldlieaaGreat
namespace Go.Proofs.YtnilempeldlieaaGreat
open Go.ChangeShapes Go.WideShapes Go.RowKit Go.Deep Go.Joins
set_option maxRecDepth 100000
theorem cells24 : Tryz.prog.cellsOf 24 = 3 := by kernel_rfl
theorem cells46 : Tryz.prog.cellsOf 41 = 6 := by kernel_rfl
theorem cells3 : Tryz.prog.cellsOf 3 = 1 := by kernel_rfl
section
variable {H : Type} {enc : TypeId × Value → H} {w : World} {base : Nat} {spare : Nat → Bool} {held : Bool}
theorem spot_none {w : World} {a : Addr} {v : Value} (h : w.cell? a = some v) : a = ⟨a.block, a.off, none⟩ := by
  obtain ⟨b, o, s⟩ := a
  cases s with
  | none => rfl
  | some t =>
    exfalso
    unfold World.cell? at h
    split at h
    · simp at h
    · cases h
theorem add_off (b o i : Nat) : (⟨b, o, none⟩ : Addr).add i = ⟨b, o + i, none⟩ := by
  unfold Addr.add
  split
  · rename_i e; subst e; rfl
  · rfl
theorem open_ints_r {fuel : Nat} {v : Value} {x : DataW H × List MemPlace} (h : DataW.trod enc Tryz.prog w base spare held fuel 34 [v] = some x) :
    ∃ S c xs, v = .slice S (xs : List Int).length c ∧ IntsR w S xs ∧ xs.length ≤ c ∧ (S = none → c = 0) ∧ xs.length ≤ 9223372036854775807 := by
  rcases open_ints Tryz.underlying34 Tryz.underlying3 cells3 h with ⟨e, _⟩ | ⟨a, len, cap, zs, e, _, hl, hm, hz, _, hc, _⟩
  · refine ⟨none, 0, [], by simpa using e, fun hn => by simp at hn, Nat.le_refl _, fun _ => rfl, by simp⟩
  · have hlz : len ≤ zs.length := by rw [hz]; split <;> omega
    have ht : (zs.take len).length = len := by rw [List.length_take]; omega
    refine ⟨some a, cap, zs.take len, by rw [ht]; simpa using e, fun hn => ?_, by omega, (fun g => by cases g), by unfold maxLen at hm; omega⟩
    have h0 := hc 0 (by omega)
    have ha := spot_none (show w.cell? a = _ from by simpa [Addr.add] using h0)
    refine ⟨a.block, a.off, by rw [← ha], ?_, fun j x hx => ?_⟩
    · have := World.block_lt_of_cell? w _ (show w.cell? a = _ from by simpa [Addr.add] using h0)
      exact this
    · have hj : j < len := by have := (List.getElem?_eq_some_iff.1 hx).1; omega
      have := hc j (by omega)
      rw [ha, add_off] at this
      rw [this]
      rw [List.getElem?_take, if_pos hj] at hx
      rw [List.getD_eq_getElem?_getD, hx]; rfl
theorem open_obj {fuel : Nat} {cs : List Value} {x : DataW H × List MemPlace} (h : DataW.trod enc Tryz.prog w base spare held fuel 41 cs = some x) :
    ∃ (o : Ob) (S : Option Addr) (d : Nat), cs = [.int .i64 o.cls, .int .i64 o.kind, .slice S o.slots.length d, .string o.text, .int .i64 o.bits, .int .i64 o.hash] ∧ IntsR w S o.slots ∧ o.slots.length ≤ d ∧ (S = none → d = 0) ∧ o.slots.length ≤ 9223372036854775807 := by
  obtain ⟨xs, n, _, _, hl, hxl, hf⟩ := DataW.trod_struct Tryz.underlying41 h
  rw [cells46] at hl
  match cs, hl with
  | [v0, v1, v2, v3, v4, v5], _ =>
    have h0 : DataW.trod enc Tryz.prog w base spare held n 3 (([v0, v1, v2, v3, v4, v5].drop 0).take (Tryz.prog.cellsOf 3)) = xs[0]? := hf 0 _ rfl
    have h1 : DataW.trod enc Tryz.prog w base spare held n 3 (([v0, v1, v2, v3, v4, v5].drop 1).take (Tryz.prog.cellsOf 3)) = xs[1]? := hf 1 _ rfl
    have h2 : DataW.trod enc Tryz.prog w base spare held n 34 (([v0, v1, v2, v3, v4, v5].drop 2).take (Tryz.prog.cellsOf 34)) = xs[2]? := hf 2 _ rfl
    have h3 : DataW.trod enc Tryz.prog w base spare held n 9 (([v0, v1, v2, v3, v4, v5].drop 3).take (Tryz.prog.cellsOf 9)) = xs[3]? := hf 3 _ rfl
    have h4 : DataW.trod enc Tryz.prog w base spare held n 3 (([v0, v1, v2, v3, v4, v5].drop 4).take (Tryz.prog.cellsOf 3)) = xs[4]? := hf 4 _ rfl
    have h5 : DataW.trod enc Tryz.prog w base spare held n 3 (([v0, v1, v2, v3, v4, v5].drop 5).take (Tryz.prog.cellsOf 3)) = xs[5]? := hf 5 _ rfl
    have c44 : Tryz.prog.cellsOf 34 = 1 := by kernel_rfl
    have c9 : Tryz.prog.cellsOf 9 = 1 := by kernel_rfl
    have hi : ∀ i (hi : i < 6), xs[i]? = some (xs[i]'(by rw [hxl]; exact hi)) := fun i hi => List.getElem?_eq_getElem _
    simp only [cells3, c44, c9, List.drop_zero, List.drop_succ_cons, List.take_succ_cons, List.take_zero] at h0 h1 h2 h3 h4 h5
    rw [hi 0 (by omega)] at h0
    rw [hi 1 (by omega)] at h1
    rw [hi 2 (by omega)] at h2
    rw [hi 3 (by omega)] at h3
    rw [hi 4 (by omega)] at h4
    rw [hi 5 (by omega)] at h5
    obtain ⟨a0, e0, _⟩ := DataW.trod_int Tryz.underlying3 h0
    obtain ⟨a1, e1, _⟩ := DataW.trod_int Tryz.underlying3 h1
    obtain ⟨S, d, zs, e2, k1, k2, k3, k4⟩ := open_ints_r h2
    obtain ⟨t, e3, _⟩ := DataW.trod_string Tryz.underlying9 h3
    obtain ⟨a4, e4, _⟩ := DataW.trod_int Tryz.underlying3 h4
    obtain ⟨a5, e5, _⟩ := DataW.trod_int Tryz.underlying3 h5
    simp only [List.cons.injEq, and_true] at e0 e1 e3 e4 e5
    subst e0 e1 e2 e3 e4 e5
    exact ⟨⟨a0, a1, zs, t, a4, a5⟩, S, d, rfl, k1, k2, k3, k4⟩
theorem open_objs {fuel : Nat} {v : Value} {x : DataW H × List MemPlace} (h : DataW.trod enc Tryz.prog w base spare held fuel 22 [v] = some x) :
    ∃ (A : Option Addr) (c : Nat) (os : List Ob), v = .slice A os.length c ∧ ObsR w A os ∧ os.length ≤ 9223372036854775807 ∧ ∀ o ∈ os, o.slots.length ≤ 9223372036854775807 := by
  rcases open_slice Tryz.underlying22 h with ⟨e, _⟩ | ⟨a, len, cap, m, n, D, Pl, e, _, hl, hm, hmm, _, hx⟩
  · exact ⟨none, 0, [], by simpa using e, fun hn => by simp at hn, by simp, fun o ho => by simp at ho⟩
  · have hlm : len ≤ m := by rw [hmm]; split <;> omega
    rw [cells46] at hx
    have each : ∀ i, i < len → ∃ q : Ob × Option Addr × Nat, (∀ j u, ([.int .i64 q.1.cls, .int .i64 q.1.kind, .slice q.2.1 q.1.slots.length q.2.2, .string q.1.text, .int .i64 q.1.bits, .int .i64 q.1.hash] : List Value)[j]? = some u → w.cell? ((a.add (i * 6)).add j) = some u) ∧
        IntsR w q.2.1 q.1.slots ∧ q.1.slots.length ≤ q.2.2 ∧ (q.2.1 = none → q.2.2 = 0) ∧ q.1.slots.length ≤ 9223372036854775807 := by
      intro i hi
      obtain ⟨cs', h1, h2⟩ := hx i (by omega)
      obtain ⟨o, S, d, rfl, k1, k2, k3, k4⟩ := open_obj h2
      obtain ⟨_, _, hcell⟩ := World.cells?_some h1
      refine ⟨(o, S, d), fun j u hu => ?_, k1, k2, k3, k4⟩
      have hj : j < 6 := (List.getElem?_eq_some_iff.1 hu).1
      rw [hcell j hj]; exact hu
    obtain ⟨q, hq⟩ := choose_lt each
    have hll : ((List.range len).map fun i => (q i).1).length = len := by simp
    refine ⟨some a, cap, (List.range len).map fun i => (q i).1, by rw [hll]; simpa using e, fun hn => ?_, by rw [hll]; unfold maxLen at hm; omega, fun o ho => ?_⟩
    · rw [hll] at hn
      have c0 := (hq 0 hn).1 0 _ rfl
      have c0' : w.cell? a = some (.int .i64 (q 0).1.cls) := by simpa [Addr.add] using c0
      have ha := spot_none c0'
      refine ⟨a.block, a.off, by rw [← ha], World.block_lt_of_cell? w _ c0', fun i o ho => ?_⟩
      have hi : i < len := by have := (List.getElem?_eq_some_iff.1 ho).1; simpa using this
      obtain rfl : (q i).1 = o := by
        rw [List.getElem?_map, List.getElem?_range hi] at ho
        exact Option.some.inj ho
      obtain ⟨k0, k1, k2, k3, k4⟩ := hq i hi
      rw [ha] at k0
      simp only [add_off] at k0
      exact ⟨(q i).2.1, (q i).2.2, ⟨k0 0 _ rfl, k0 1 _ rfl, k0 2 _ rfl, k0 3 _ rfl, k0 4 _ rfl, k0 5 _ rfl⟩, k1, k2, k3⟩
    · obtain ⟨i, hi, rfl⟩ := List.mem_map.1 ho
      exact (hq i (List.mem_range.1 hi)).2.2.2.2
theorem open_heap {r : Go.Reach} {b0 : Nat} {v : Value} {d : DataW H} {p : List MemPlace} (hv : Value.okWide Tryz.prog w r b0 24 v) (h : DataW.Trod enc Tryz.prog w base spare held 24 v d p) :
    ∃ (hp : Hp) (A : Option Addr) (c : Nat), v = .agg #[.slice A hp.objs.length c, .int .i64 hp.cap, .int .i64 hp.last] ∧ ObsR w A hp.objs ∧ hp.Fit := by
  obtain ⟨v0, v1, v2, y0, y1, y2, n, rfl, _, _, h0, h1, h2⟩ := open_agg3 Tryz.underlying24 (by kernel_rfl) cells24 hv h
  obtain ⟨A, c, os, rfl, k1, k2, k3⟩ := open_objs h0
  obtain ⟨a1, e1, _⟩ := DataW.trod_int Tryz.underlying3 h1
  obtain ⟨a2, e2, _⟩ := DataW.trod_int Tryz.underlying3 h2
  simp only [List.cons.injEq, and_true] at e1 e2
  subst e1 e2
  exact ⟨⟨os, a1, a2⟩, A, c, rfl, k1, k2, k3⟩
theorem open_list {r : Go.Reach} {b0 : Nat} {v : Value} {d : DataW H} {p : List MemPlace} (hv : Value.okWide Tryz.prog w r b0 34 v) (h : DataW.Trod enc Tryz.prog w base spare held 34 v d p) :
    ∃ S c xs, v = .slice S (xs : List Int).length c ∧ IntsR w S xs ∧ xs.length ≤ c ∧ (S = none → c = 0) ∧ xs.length ≤ 9223372036854775807 := by
  obtain ⟨a, len, cap, rfl⟩ := okWide_slice Tryz.underlying34 hv
  obtain ⟨n, hn⟩ := h
  exact open_ints_r hn
end
end Go.Proofs.YtnilempeldlieaaGreat
namespace Go.Proofs.YtnilempeldlieaaGreat
open Go.ChangeShapes Go.WideShapes Go.RowKit Go.Deep Go.Joins
set_option maxRecDepth 100000
theorem cellsS15 : Tryz.prog.cellsOf 27 = 8 := by kernel_rfl
theorem cellsE15 : Tryz.prog.cellsOf 25 = 1 := by kernel_rfl
theorem cellsO15 : Tryz.prog.cellsOf 22 = 1 := by kernel_rfl
theorem array8 {α : Type} {a : Array α} (h : a.size = 8) : ∃ x0 x1 x2 x3 x4 x5 x6 x7, a = #[x0, x1, x2, x3, x4, x5, x6, x7] := by
  obtain ⟨l⟩ := a
  match l, h with
  | [x0, x1, x2, x3, x4, x5, x6, x7], _ => exact ⟨x0, x1, x2, x3, x4, x5, x6, x7, rfl⟩
theorem array6 {α : Type} {a : Array α} (h : a.size = 6) : ∃ x0 x1 x2 x3 x4 x5, a = #[x0, x1, x2, x3, x4, x5] := by
  obtain ⟨l⟩ := a
  match l, h with
  | [x0, x1, x2, x3, x4, x5], _ => exact ⟨x0, x1, x2, x3, x4, x5, rfl⟩
section
variable {H : Type} {enc : TypeId × Value → H} {w : World} {base : Nat} {spare : Nat → Bool} {held : Bool}
theorem open_heap15 {fuel : Nat} {v0 v1 v2 : Value} {x : DataW H × List MemPlace} (h : DataW.trod enc Tryz.prog w base spare held fuel 24 [v0, v1, v2] = some x) :
    ∃ (hp : Hp) (A : Option Addr) (c : Nat), v0 = .slice A hp.objs.length c ∧ v1 = .int .i64 hp.cap ∧ v2 = .int .i64 hp.last ∧ ObsR w A hp.objs ∧ hp.Fit := by
  obtain ⟨y0, y1, y2, n, _, _, h0, h1, h2⟩ := trod_struct3 Tryz.underlying24 h
  simp only [cellsO15, cells3, List.drop_zero, List.drop_succ_cons, List.take_succ_cons, List.take_zero] at h0 h1 h2
  obtain ⟨A, c, os, rfl, k1, k2, k3⟩ := open_objs h0
  obtain ⟨a1, e1, _⟩ := DataW.trod_int Tryz.underlying3 h1
  obtain ⟨a2, e2, _⟩ := DataW.trod_int Tryz.underlying3 h2
  simp only [List.cons.injEq, and_true] at e1 e2
  subst e1 e2
  exact ⟨⟨os, a1, a2⟩, A, c, rfl, rfl, rfl, k1, k2, k3⟩
theorem open_state {r : Go.Reach} {b0 : Nat} {v : Value} {d : DataW H} {p : List MemPlace} (hv : Value.okWide Tryz.prog w r b0 27 v) (h : DataW.Trod enc Tryz.prog w base spare held 27 v d p) :
    ∃ (s : St) (A : Option Addr) (c : Nat), v = .agg #[.slice A s.hp.objs.length c, .int .i64 s.hp.cap, .int .i64 s.hp.last, .int .i64 s.proc, .int .i64 s.ready, .int .i64 s.halt, .int .i64 s.steps, .int .i64 s.used] ∧ ObsR w A s.hp.objs ∧ s.hp.Fit := by
  obtain ⟨cs, rfl, hsz⟩ := okWide_struct Tryz.underlying27 hv
  obtain ⟨v0, v1, v2, v3, v4, v5, v6, v7, rfl⟩ := array8 (hsz.trans cellsS15)
  obtain ⟨fuel, hf0⟩ := h
  obtain ⟨xs, n, _, _, hl, hxl, hf⟩ := DataW.trod_struct Tryz.underlying27 hf0
  have h0 : DataW.trod enc Tryz.prog w base spare held n 24 (([v0, v1, v2, v3, v4, v5, v6, v7].drop 0).take (Tryz.prog.cellsOf 24)) = xs[0]? := hf 0 _ rfl
  have h1 : DataW.trod enc Tryz.prog w base spare held n 3 (([v0, v1, v2, v3, v4, v5, v6, v7].drop 3).take (Tryz.prog.cellsOf 3)) = xs[1]? := hf 1 _ rfl
  have h2 : DataW.trod enc Tryz.prog w base spare held n 3 (([v0, v1, v2, v3, v4, v5, v6, v7].drop 4).take (Tryz.prog.cellsOf 3)) = xs[2]? := hf 2 _ rfl
  have h3 : DataW.trod enc Tryz.prog w base spare held n 25 (([v0, v1, v2, v3, v4, v5, v6, v7].drop 5).take (Tryz.prog.cellsOf 25)) = xs[3]? := hf 3 _ rfl
  have h4 : DataW.trod enc Tryz.prog w base spare held n 3 (([v0, v1, v2, v3, v4, v5, v6, v7].drop 6).take (Tryz.prog.cellsOf 3)) = xs[4]? := hf 4 _ rfl
  have h5 : DataW.trod enc Tryz.prog w base spare held n 3 (([v0, v1, v2, v3, v4, v5, v6, v7].drop 7).take (Tryz.prog.cellsOf 3)) = xs[5]? := hf 5 _ rfl
  have hi : ∀ i (hi : i < 6), xs[i]? = some (xs[i]'(by rw [hxl]; exact hi)) := fun i hi => List.getElem?_eq_getElem _
  simp only [cells24, cells3, cellsE15, List.drop_zero, List.drop_succ_cons, List.take_succ_cons, List.take_zero] at h0 h1 h2 h3 h4 h5
  rw [hi 0 (by omega)] at h0
  rw [hi 1 (by omega)] at h1
  rw [hi 2 (by omega)] at h2
  rw [hi 3 (by omega)] at h3
  rw [hi 4 (by omega)] at h4
  rw [hi 5 (by omega)] at h5
  obtain ⟨hp, A, c, rfl, rfl, rfl, k1, k2⟩ := open_heap15 h0
  obtain ⟨a1, e1, _⟩ := DataW.trod_int Tryz.underlying3 h1
  obtain ⟨a2, e2, _⟩ := DataW.trod_int Tryz.underlying3 h2
  obtain ⟨a3, e3, _⟩ := DataW.trod_int Tryz.underlying25 h3
  obtain ⟨a4, e4, _⟩ := DataW.trod_int Tryz.underlying3 h4
  obtain ⟨a5, e5, _⟩ := DataW.trod_int Tryz.underlying3 h5
  simp only [List.cons.injEq, and_true] at e1 e2 e3 e4 e5
  subst e1 e2 e3 e4 e5
  exact ⟨⟨hp, a1, a2, a3, a4, a5⟩, A, c, rfl, k1, k2⟩
theorem open_one_obj {r : Go.Reach} {b0 : Nat} {v : Value} {d : DataW H} {p : List MemPlace} (hv : Value.okWide Tryz.prog w r b0 41 v) (h : DataW.Trod enc Tryz.prog w base spare held 41 v d p) :
    ∃ (o : Ob) (S : Option Addr) (e : Nat), v = .agg #[.int .i64 o.cls, .int .i64 o.kind, .slice S o.slots.length e, .string o.text, .int .i64 o.bits, .int .i64 o.hash] ∧ IntsR w S o.slots ∧ o.slots.length ≤ e ∧ (S = none → e = 0) ∧ o.slots.length ≤ 9223372036854775807 := by
  obtain ⟨cs, rfl, hsz⟩ := okWide_struct Tryz.underlying41 hv
  obtain ⟨v0, v1, v2, v3, v4, v5, rfl⟩ := array6 (hsz.trans cells46)
  obtain ⟨fuel, hf0⟩ := h
  obtain ⟨o, S, e, he, k1, k2, k3, k4⟩ := open_obj hf0
  simp only [Value.cells, List.cons.injEq, and_true] at he
  obtain ⟨rfl, rfl, rfl, rfl, rfl, rfl⟩ := he
  exact ⟨o, S, e, rfl, k1, k2, k3, k4⟩
end
end Go.Proofs.YtnilempeldlieaaGreat
