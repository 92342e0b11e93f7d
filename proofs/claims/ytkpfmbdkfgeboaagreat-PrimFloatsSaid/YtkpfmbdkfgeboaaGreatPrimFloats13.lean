/- PrimFloats returns true: for every heap, every operation and every two whole numbers that the row lets in, on every machine; no further condition. (With it: the mathematics of floats of whole numbers; an array of two ints opened; the law walked.) -/
import Derived.Test.YtkpfmbdkfgeboaaGreatKP13
import Derived.Test.YtkpfmbdkfgeboaaGreatOW13
import Derived.Test.YtkpfmbdkfgeboaaGreatPX13
import Derived.Test.YtkpfmbdkfgeboaaGreatN
import Derived.Test.YtkpfmbdkfgeboaaGreatR
import Derived.Test.YtkpfmbdkfgeboaaGreatFDQ2
import Derived.Test.YtkpfmbdkfgeboaaGreatRows
import Derived.Test.YtkpfmbdkfgeboaaGreatOP0
import Derived.ProofKit
import Derived.OpenShut
namespace Go.Proofs.YtkpfmbdkfgeboaaGreat
open Flt
namespace Flt
theorem in_rnd (K : Nat) (n : Bool) (N D : Nat) : In64 (rnd K n N D) := in_sg n (min_lt _)
/- the order, with both signs turned -/

/-- A number whose digits all are kept is what its float is worth. -/
theorem val_exact {K N D : Nat} (hD : 0 < D) (q : Nat) (h : N = q * (D * 2 ^ last K N D)) : val K (rq K N D) = q * 2 ^ last K N D := by
  rw [val_rq]
  congr 1
  have hp := pow_pos2 (last K N D)
  generalize last K N D = l at *
  subst h
  exact rhe_exact _ (Nat.mul_pos hD hp)

theorem val_infp (K : Nat) : val K infR = (2 ^ 52 + infR % 2 ^ 52) * 2 ^ (K - 1074 + (infR / 2 ^ 52 - 1)) := by
  unfold val
  exact if_neg (by decide)
theorem val_inf {K : Nat} (hK : 1074 ≤ K) : val K infR = 2 ^ 52 * 2 ^ (K + 972) := by
  rw [val_infp]
  have e : K - 1074 + (infR / 2 ^ 52 - 1) = K + 972 := by
    have : infR / 2 ^ 52 = 2047 := by decide
    omega
  have e2 : 2 ^ 52 + infR % 2 ^ 52 = 2 ^ 52 := by decide
  rw [e2, e]

/- whole numbers -/

theorem whole_digits {K m : Nat} (hm : 0 < m) (h : m < 2 ^ 53) (hK : 1074 ≤ K) : ∃ q, m * 2 ^ K = q * 2 ^ last K (m * 2 ^ K) 1 := by
  have hl : last K (m * 2 ^ K) 1 ≤ K := by
    unfold last
    rw [Nat.div_one, log2_mul_pow hm]
    have : Nat.log2 m < 53 := (Nat.log2_lt (by omega)).2 h
    omega
  generalize last K (m * 2 ^ K) 1 = l at *
  refine ⟨m * 2 ^ (K - l), ?_⟩
  rw [Nat.mul_assoc, ← Nat.pow_add, Nat.sub_add_cancel hl]

theorem whole_val {K m : Nat} (h : m < 2 ^ 53) (hK : 1074 ≤ K) : val K (rq K (m * 2 ^ K) 1) = m * 2 ^ K := by
  rcases Nat.eq_zero_or_pos m with z | z
  · subst z; rw [Nat.zero_mul, rq_zero, val_zero]
  · obtain ⟨q, hq⟩ := whole_digits z h hK
    rw [val_exact (by omega) q (by rw [Nat.one_mul]; exact hq)]
    exact hq.symm

theorem val_inf_big {K : Nat} (hK : 1074 ≤ K) : ∃ big : Nat, 2 ≤ big ∧ val K infR = 2 ^ 52 * big * 2 ^ K := by
  obtain ⟨x, hx⟩ : ∃ x : Nat, x = 972 := ⟨972, rfl⟩
  refine ⟨2 ^ x, ?_, ?_⟩
  · have : (2 : Nat) ^ 1 ≤ 2 ^ x := Nat.pow_le_pow_right (by omega) (by omega)
    omega
  · rw [val_inf hK, ← hx, Nat.add_comm, Nat.pow_add, ← Nat.mul_assoc]

theorem whole_rung {K m : Nat} (h : m < 2 ^ 53) (hK : 1074 ≤ K) : rq K (m * 2 ^ K) 1 < infR := by
  apply val_lt_iff (K := K).1
  obtain ⟨big, h2, hb⟩ := val_inf_big hK
  rw [whole_val h hK, hb]
  refine Nat.mul_lt_mul_of_pos_right (Nat.lt_of_lt_of_le h ?_) (pow_pos2 K)
  have h53 : (2 : Nat) ^ 53 = 2 ^ 52 * 2 := by decide
  rw [h53]
  exact Nat.mul_le_mul_left _ h2

theorem of_rnd {n : Int} (h : n.natAbs < 2 ^ 53) {K : Nat} (hK : 1074 ≤ K) : fOf n = rnd K (decide (n < 0)) (n.natAbs * 2 ^ K) 1 := by
  unfold fOf
  have h53 : (2 : Nat) ^ 53 = 9007199254740992 := by decide
  rw [if_neg (by omega), ofInt_eq n hK]

theorem of_parts {n : Int} (h : n.natAbs < 2 ^ 53) {K : Nat} (hK : 1074 ≤ K) :
    In64 (fOf n) ∧ rg (fOf n) < infR ∧ ngv (fOf n) = decide (n < 0) ∧ val K (rg (fOf n)) = n.natAbs * 2 ^ K ∧ sv K (fOf n) = n * (2 ^ K : Nat) := by
  have hr := whole_rung h hK
  have e := of_rnd h hK
  have e1 : rg (fOf n) = rq K (n.natAbs * 2 ^ K) 1 := by
    rw [e]; unfold rnd; rw [rg_sg _ (min_lt _), Nat.min_eq_left (Nat.le_of_lt hr)]
  have e2 : ngv (fOf n) = decide (n < 0) := by
    rw [e]; unfold rnd; rw [ngv_sg _ (min_lt _)]
  have e3 : val K (rg (fOf n)) = n.natAbs * 2 ^ K := by rw [e1, whole_val h hK]
  refine ⟨?_, by rw [e1]; exact hr, e2, e3, ?_⟩
  · rw [e]; exact in_rnd _ _ _ _
  · unfold sv
    rw [e2, e3]
    have hn : (n.natAbs : Int) = if n < 0 then -n else n := by split <;> omega
    rw [Int.natCast_mul, hn]
    by_cases g : n < 0
    · simp only [g, decide_true, if_true, Int.neg_mul, Int.neg_neg]
    · simp only [g, decide_false, if_false, Bool.false_eq_true]

theorem whole_trunc13 {m : Int} (hm1 : -1073741824 ≤ m) (hm2 : m ≤ 1073741823) : tb (fOf m) = true ∧ fTr (fOf m) = m := by
  obtain ⟨K, hK⟩ := exK
  have h26 : (2 : Nat) ^ 53 = 9007199254740992 := by decide
  obtain ⟨i1, f1, g1, v1, s1⟩ := of_parts (n := m) (by omega) (K := K) (by omega)
  have ht := (toInt_fin i1 f1).2 K (by omega)
  rw [v1, Nat.mul_div_cancel _ (pow_pos2 K)] at ht
  have hv : tv (fOf m) = m := by
    unfold tv
    rw [ht, g1]
    by_cases g : m < 0
    · simp only [g, decide_true, if_true]; omega
    · simp only [g, decide_false, Bool.false_eq_true, if_false]; omega
  have hb : tb (fOf m) = true := by
    unfold tb
    rw [hv]
    simp only [f1, decide_true, Bool.true_and, Bool.and_eq_true, decide_eq_true_eq]
    omega
  refine ⟨hb, ?_⟩
  unfold fTr
  rw [hb, hv]
  rfl
theorem in_nan : In64 theNaN := by unfold In64 theNaN; omega
theorem in_fMul {a b : Int} (ha : In64 a) (hb : In64 b) : In64 (fMul a b) := by
  obtain ⟨K, hK⟩ := exK
  have hi : infR < 9223372036854775808 := by decide
  rw [fMul_eq ha hb (K := K) (by omega)]
  unfold mMul
  repeat' split
  all_goals first | exact in_nan | exact in_sg _ hi | exact in_rnd _ _ _ _
theorem in_fDiv {a b : Int} (ha : In64 a) (hb : In64 b) : In64 (fDiv a b) := by
  obtain ⟨K, hK⟩ := exK
  have hi : infR < 9223372036854775808 := by decide
  rw [fDiv_eq ha hb (K := K) (by omega)]
  unfold mDiv
  repeat' split
  all_goals first | exact in_nan | exact in_sg _ hi | exact in_rnd _ _ _ _ | exact in_sg _ (by omega)
theorem in_fAdd {a b : Int} (ha : In64 a) (hb : In64 b) : In64 (fAdd a b) := by
  obtain ⟨K, hK⟩ := exK
  rw [fAdd_eq ha hb (K := K) (by omega)]
  unfold mAdd
  repeat' split
  all_goals first | exact in_nan | exact ha | exact hb | exact in_rnd _ _ _ _ | exact in_sg _ (by omega)
theorem in_fSub {a b : Int} (ha : In64 a) (hb : In64 b) : In64 (fSub a b) := by
  rw [fSub_eq hb]
  split
  · exact in_nan
  · exact in_fAdd ha (in_opp b)

theorem in_fOp13 {a b : Int} (ha : In64 a) (hb : In64 b) (d : Int) : In64 (fOp d a b) := by
  unfold fOp
  repeat' split
  all_goals first | exact in_fAdd ha hb | exact in_fSub ha hb | exact in_fMul ha hb | exact in_fDiv ha hb | exact in_nan
end Flt
end Go.Proofs.YtkpfmbdkfgeboaaGreat
namespace Go.Proofs.YtkpfmbdkfgeboaaGreat
open Go.RowKit Flt
theorem nb_odd13 {m : Int} (s : smB m = true) : nB (2 * m + 1) = true ∧ nV (2 * m + 1) = m := ⟨(sm_num13 s).1, (sm_num13 s).2.1⟩
theorem fl_whole13 {h : Hp} {m : Int} (s : smB m = true) : fl13 h (2 * m + 1) = some (fOf m) := by
  unfold fl13
  rw [if_pos (nb_odd13 s).1, (nb_odd13 s).2]
theorem ro_float13 {h : Hp} (hm : mayB h = true) (hl : 12 ≤ h.objs.length) (hc : (h.objs.length : Int) < h.cap) : roE h 8 2 0 = 0 := by
  have hr : refB h.objs.length 8 = true := by
    unfold refB
    rw [show atB 8 = true by decide, show atV 8 = 4 by decide]
    simp; omega
  unfold roE
  rw [if_neg (by rw [hm]; decide), if_neg (by rw [hr]; decide), if_neg (by decide), if_neg (by decide), if_neg (by omega)]
theorem nf_room13 {h : Hp} (hm : mayB h = true) (hl : 12 ≤ h.objs.length) (hc : (h.objs.length : Int) < h.cap) (b : Int) : nf13 h b = (nfH13 h b, 2 * (h.objs.length : Int), 0) := by
  unfold nf13
  rw [if_pos (ro_float13 hm hl hc)]
theorem nfH_len13 (h : Hp) (b : Int) : (nfH13 h b).objs.length = h.objs.length + 1 := by unfold nfH13; simp
theorem pr_op13 {h : Hp} {num s a b x y : Int} (hn : 17 ≤ num) (hn2 : num ≤ 20) (es : fl13 h s = some x) (ea : fl13 h a = some y) : pr13 h num s a b = nf13 h (fOp (num - 17) x y) := by
  unfold pr13 ff13
  rw [if_neg (by omega), if_neg (by omega), if_neg (by omega), if_neg (by omega), es]
  simp only
  rw [if_neg (by omega), if_neg (by omega), ea]
  simp only
  rw [if_neg (by omega), if_neg (by omega)]
theorem ar_op13 {num : Int} (hn : 17 ≤ num) (hn2 : num ≤ 20) : ar13 num = some 1 := by
  unfold ar13
  rw [if_neg (by omega), if_neg (by omega), if_neg (by omega)]
theorem nf_ob13 (h : Hp) (b : Int) : obAt (nfH13 h b) (2 * (h.objs.length : Int)) = { newO h 8 2 0 with bits := b } ∨ 1048576 ≤ h.objs.length := by
  by_cases g : h.objs.length < 1048576
  · left
    have h1 : atB (2 * (h.objs.length : Int)) = true := atB_iff.2 (by omega)
    have h2 : atV (2 * (h.objs.length : Int)) = h.objs.length := by unfold atV; rw [if_pos h1]; omega
    unfold obAt nfH13
    rw [h2]
    simp
  · right; omega
structure Flo13 (h g k : Hp) (d m n b : Int) : Prop where
  f1 : do13 h (17 + d) (2 * m + 1) [2 * n + 1] = (g, 2 * (h.objs.length : Int), 0)
  f2 : do13 g 24 (2 * m + 1) [] = (k, 2 * ((h.objs.length : Int) + 1), 0)
  f3 : do13 k 23 (2 * ((h.objs.length : Int) + 1)) [] = (k, 2 * m + 1, 0)
  gm : mayB g = true
  km : mayB k = true
  gw : ∀ o ∈ g.objs, In64 o.bits
  kw : ∀ o ∈ k.objs, In64 o.bits
  gl : g.objs.length = h.objs.length + 1
  ob : ∃ o, g.objs[h.objs.length]? = some o ∧ o.kind = 2 ∧ o.cls = 8 ∧ o.bits = b
theorem flo13 {h : Hp} {d m n : Int} (hm : mayB h = true) (hl : 12 ≤ h.objs.length) (hc : (h.objs.length : Int) + 2 ≤ h.cap) (d0 : 0 ≤ d) (d3 : d ≤ 3) (s1 : smB m = true) (s2 : smB n = true) (wd : ∀ o ∈ h.objs, In64 o.bits) :
    Flo13 h (nfH13 h (fOp d (fOf m) (fOf n))) (nfH13 (nfH13 h (fOp d (fOf m) (fOf n))) (fOf m)) d m n (fOp d (fOf m) (fOf n)) := by
  have i1 := in_fOp13 (of_in13 m) (of_in13 n) d
  have f1 : do13 h (17 + d) (2 * m + 1) [2 * n + 1] = (nfH13 h (fOp d (fOf m) (fOf n)), 2 * (h.objs.length : Int), 0) := by
    rw [do_may13 hm hl ((sm_num13 s1).2.2 _) (by simp [(sm_num13 s2).2.2]) (ar_op13 (by omega) (by omega))]
    rw [pr_op13 (by omega) (by omega) (fl_whole13 s1) (show fl13 h ([2 * n + 1].getD 0 0) = _ from fl_whole13 s2), show 17 + d - 17 = d by omega]
    exact nf_room13 hm hl (by omega) _
  obtain ⟨b, hb⟩ : ∃ b, b = fOp d (fOf m) (fOf n) := ⟨_, rfl⟩
  rw [← hb] at f1 i1 ⊢
  have hcb : canon b = b := by rw [hb]; exact canon_fOp (of_in13 m) (of_in13 n) d
  clear hb
  have hlen := may_len hm
  have G := good_nf hm hcb
  rw [nf_room13 hm hl (by omega)] at G
  have gm : mayB (nfH13 h b) = true := G.may rfl
  have gl := nfH_len13 h b
  have gc : (nfH13 h b).cap = h.cap := rfl
  have gw : ∀ o ∈ (nfH13 h b).objs, In64 o.bits := fun o ho => by
    rcases List.mem_append.1 ho with k | k
    · exact wd o k
    · obtain rfl : o = { newO h 8 2 0 with bits := b } := by simpa using k
      exact i1
  have ob : ∃ o, (nfH13 h b).objs[h.objs.length]? = some o ∧ o.kind = 2 ∧ o.cls = 8 ∧ o.bits = b := ⟨{ newO h 8 2 0 with bits := b }, by unfold nfH13; simp, rfl, rfl, rfl⟩
  obtain ⟨g, hg⟩ : ∃ g, g = nfH13 h b := ⟨_, rfl⟩
  rw [← hg] at f1 gm gl gc gw ob ⊢
  clear hg G
  have f2 : do13 g 24 (2 * m + 1) [] = (nfH13 g (fOf m), 2 * ((h.objs.length : Int) + 1), 0) := by
    rw [do_may13 gm (by omega) ((sm_num13 s1).2.2 _) rfl (show ar13 24 = some 0 by decide)]
    show ff13 g 24 (2 * m + 1) 0 = _
    unfold ff13
    rw [fl_whole13 s1]
    simp only
    rw [if_neg (by decide), if_pos (by trivial), nf_room13 gm (by omega) (by omega), gl]
    simp
  have K := good_nf gm (canon_fOf m)
  rw [nf_room13 gm (by omega) (by omega)] at K
  have km : mayB (nfH13 g (fOf m)) = true := K.may rfl
  have kh : hasB (nfH13 g (fOf m)).objs.length (2 * (g.objs.length : Int)) = true := K.has rfl
  have kl := nfH_len13 g (fOf m)
  have kw : ∀ o ∈ (nfH13 g (fOf m)).objs, In64 o.bits := fun o ho => by
    rcases List.mem_append.1 ho with k | k
    · exact gw o k
    · obtain rfl : o = { newO g 8 2 0 with bits := fOf m } := by simpa using k
      exact of_in13 m
  refine ⟨f1, f2, ?_, gm, km, gw, kw, gl, ob⟩
  have e : 2 * ((h.objs.length : Int) + 1) = 2 * (g.objs.length : Int) := by omega
  rw [e, do_may13 km (by omega) kh rfl (show ar13 23 = some 0 by decide)]
  show ff13 (nfH13 g (fOf m)) 23 (2 * (g.objs.length : Int)) 0 = _
  have ho : obAt (nfH13 g (fOf m)) (2 * (g.objs.length : Int)) = { newO g 8 2 0 with bits := fOf m } := by
    rcases nf_ob13 g (fOf m) with k | k
    · exact k
    · omega
  have hnb : nB (2 * (g.objs.length : Int)) = false := by
    cases k : nB (2 * (g.objs.length : Int))
    · rfl
    · have := nB_iff.1 k; omega
  have hf : fl13 (nfH13 g (fOf m)) (2 * (g.objs.length : Int)) = some (fOf m) := by
    unfold fl13
    rw [if_neg (by rw [hnb]; decide), ho]
    rfl
  obtain ⟨t1, t2⟩ := whole_trunc13 (smB_iff.1 s1).1 (smB_iff.1 s1).2
  unfold ff13
  rw [hf]
  simp only
  rw [if_pos trivial, if_pos t1, t2]
  unfold in13
  rw [if_pos s1]
end Go.Proofs.YtkpfmbdkfgeboaaGreat
namespace Go.Proofs.YtkpfmbdkfgeboaaGreat
open Go.ChangeShapes Go.WideShapes Go.RowKit Go.Deep Go.Joins
set_option maxRecDepth 100000
theorem cells2_13 : Tryz.prog.cellsOf 39 = 2 := by kernel_rfl
theorem okWide_array13 {P : Program} {t e : TypeId} {n : Nat} {w : World} {r : Reach} {base : Nat} {v : Value} (ht : P.underlying t = some (.array n e)) (h : Value.okWide P w r base t v) : ∃ cs, v = .agg cs ∧ cs.size = P.cellsOf t := by
  unfold Value.okWide at h
  rw [ht] at h
  cases v <;> simp_all
section
variable {H : Type} {enc : TypeId × Value → H} {w : World} {base : Nat} {spare : Nat → Bool} {held : Bool}
theorem open_two13 {r : Reach} {b0 : Nat} {v : Value} {d : DataW H} {p : List MemPlace} (hv : Value.okWide Tryz.prog w r b0 39 v) (h : DataW.Trod enc Tryz.prog w base spare held 39 v d p) :
    ∃ a b : Int, v = .agg #[.int .i64 a, .int .i64 b] := by
  obtain ⟨cs, rfl, hsz⟩ := okWide_array13 Tryz.underlying39 hv
  rw [cells2_13] at hsz
  obtain ⟨c0, c1, rfl⟩ := array2 hsz
  obtain ⟨fuel, hf⟩ := h
  obtain ⟨xs, m, _, _, _, hxl, hx⟩ := DataW.trod_array Tryz.underlying39 hf
  have g0 := hx 0 (by omega)
  have g1 := hx 1 (by omega)
  rw [cells3] at g0 g1
  simp [Value.cells] at g0 g1
  rw [List.getElem?_eq_getElem (by omega)] at g0 g1
  obtain ⟨a, e0, _⟩ := DataW.trod_int Tryz.underlying3 g0
  obtain ⟨b, e1, _⟩ := DataW.trod_int Tryz.underlying3 g1
  simp only [List.cons.injEq, and_true] at e0 e1
  subst e0 e1
  exact ⟨a, b, rfl⟩
end
end Go.Proofs.YtkpfmbdkfgeboaaGreat
namespace Go.Proofs.YtkpfmbdkfgeboaaGreat
open Go.RowKit Flt
set_option maxRecDepth 100000
def inV13 (n : Int) : Int := if smB n then 2 * n + 1 else 0
theorem rint_any13 (n : Int) (w : World) : Calls Tryz.prog 16 #[.int .i64 n] w fun e w' => e = .returned (.tuple #[.int .i64 (inV13 n), .bool (smB n)]) ∧ w = w' := by
  have F : smB n = true ∧ inV13 n = 2 * n + 1 ∧ -1073741824 ≤ n ∧ n ≤ 1073741823 ∨ smB n = false ∧ inV13 n = 0 ∧ n < -1073741824 ∨ smB n = false ∧ inV13 n = 0 ∧ -1073741824 ≤ n ∧ 1073741823 < n := by
    cases h : smB n
    · have := smB_no.1 h; simp [inV13, h]; omega
    · have := smB_iff.1 h; simp [inV13, h]; omega
  rcases F with ⟨h, e, b1, b2⟩ | ⟨h, e, b1⟩ | ⟨h, e, b1, b2⟩
  all_goals
    rw [h, e]; clear h e
    go_enter Tryz.func16, Tryz.ntmps16
    go_wp2
    go_ret2; exact ⟨rfl, rfl⟩
theorem rint_w13 (n : Int) (w : World) : Calls Tryz.prog 16 #[.int .i64 n] w fun e w' => e = .returned (.tuple #[.int .i64 (inV13 n), .bool (smB n)]) ∧ Below w.heap.size w w' :=
  (rint_any13 n w).mono fun e w' ⟨h1, h2⟩ => ⟨h1, by subst h2; exact Below.refl _ _⟩
theorem rn_w13 (v : Int) (w : World) : Calls Tryz.prog 17 #[.int .i64 v] w fun e w' => e = .returned (.tuple #[.int .i64 (nV v), .bool (nB v)]) ∧ Below w.heap.size w w' :=
  (rn_any v w).mono fun e w' ⟨h1, h2⟩ => ⟨h1, by subst h2; exact Below.refl _ _⟩
theorem on_cell13 {B : Nat} {w0 w : World} (h : On B w0 w) {p : Addr} (hp : p.block < B) {v : Value} (hc : w0.cell? p = some v) : w.cell? p = some v := (h.1.cell hp).trans hc
set_option maxHeartbeats 4000000 in
theorem primfloats_any13 (h : Hp) (d m n : Int) (A : Option Addr) (c : Nat) (w : World) (hs : ObsR w A h.objs) (fit : h.Fit) (wd : ∀ o ∈ h.objs, In64 o.bits) :
    Calls Tryz.prog 6 #[.agg #[.slice A h.objs.length c, .int .i64 h.cap, .int .i64 h.last], .int .i64 d, .agg #[.int .i64 m, .int .i64 n]] w fun e w' => e = .returned (.bool true) ∧ Below w.heap.size w w' := by
  obtain ⟨w0, hw0⟩ : ∃ w0, w0 = (w.alloc (.cells #[Value.slice A h.objs.length c, Value.int .i64 h.cap, Value.int .i64 h.last] 24)).alloc (.cells #[.int .i64 m, .int .i64 n] 39) := ⟨_, rfl⟩
  have HB0 : Hid (Below w.heap.size w w0) := by show Below _ _ _; rw [hw0]; exact below_alloc2 w _ _
  have HX0 : Hid (Lies w0 w.heap.size 24 #[Value.slice A h.objs.length c, Value.int .i64 h.cap, Value.int .i64 h.last]) := by show Lies _ _ _ _; rw [hw0]; exact ((Lies.new w _ _).alloc _)
  have HK0 : Hid (Lies w0 (w.heap.size + 1) 39 #[.int .i64 m, .int .i64 n]) := by
    show Lies _ _ _ _
    have := Lies.new (w.alloc (.cells #[Value.slice A h.objs.length c, Value.int .i64 h.cap, Value.int .i64 h.last] 24)) 39 #[.int .i64 m, .int .i64 n]
    rw [hw0]
    simpa [Hid] using this
  have HS := hid hs
  have HF := hid fit
  have HWD := hid wd
  clear hs fit wd
  go_enter Tryz.func6, Tryz.ntmps6
  go_upto_region 1 with fail
  rw [← hw0]
  clear hw0
  have k0 := HK0.out.cell 0
  have k1 := HK0.out.cell 1
  simp only [List.getElem?_toArray, List.getElem?_cons_zero, List.getElem?_cons_succ] at k0 k1
  go_quiet (fail)
  obtain ⟨w1, hw⟩ : ∃ x, x = w0.drewN nq := ⟨_, rfl⟩
  have hb : Below w0.heap.size w0 w1 := by rw [hw]; exact below_drewN _ _
  rw [← hw]
  clear hw
  clear k0 k1
  have HB1 := hid (then_w HB0.out hb)
  have HX1 := hid (HX0.out.later hb)
  have HK1 := hid (HK0.out.later hb)
  clear hb
  clear HB0 HX0 HK0
  go_wp2_with fail
  refine (fixed13_any _).mono ?_
  rintro e w2 ⟨rfl, hb⟩
  have HB2 := hid (then_w HB1.out hb)
  have HX2 := hid (HX1.out.later hb)
  have HK2 := hid (HK1.out.later hb)
  clear hb
  clear HB1 HX1 HK1
  have x0 := HX2.out.cell 0
  have x1 := HX2.out.cell 1
  have x2 := HX2.out.cell 2
  simp only [List.getElem?_toArray, List.getElem?_cons_zero, List.getElem?_cons_succ] at x0 x1 x2
  go_wp2_with fail
  refine (small_ok h A c _ (HS.out.below HB2.out) HF.out).mono ?_
  rintro e w3 ⟨sb, rfl, hb⟩
  clear x0 x1 x2
  have HB3 := hid (then_w HB2.out hb)
  have HX3 := hid (HX2.out.later hb)
  have HK3 := hid (HK2.out.later hb)
  clear hb
  clear HB2 HX2 HK2
  cases sb
  · have x0 := HX3.out.cell 0
    have x1 := HX3.out.cell 1
    have x2 := HX3.out.cell 2
    simp only [List.getElem?_toArray, List.getElem?_cons_zero, List.getElem?_cons_succ] at x0 x1 x2
    go_wp2_with fail
    refine (fixed13_any _).mono ?_
    rintro e w4 ⟨rfl, hb⟩
    clear x0 x1 x2
    have HB4 := hid (then_w HB3.out hb)
    have HX4 := hid (HX3.out.later hb)
    have HK4 := hid (HK3.out.later hb)
    clear hb
    clear HB3 HX3 HK3
    go_wp2_with fail
    go_ret
    exact ⟨rfl, HB4.out⟩
  by_cases h60 : h.objs.length ≤ 60
  case neg =>
    have hI60 : (60 : Int) < (h.objs.length : Int) := by omega
    have x0 := HX3.out.cell 0
    have x1 := HX3.out.cell 1
    have x2 := HX3.out.cell 2
    simp only [List.getElem?_toArray, List.getElem?_cons_zero, List.getElem?_cons_succ] at x0 x1 x2
    go_wp2_with fail
    refine (fixed13_any _).mono ?_
    rintro e w4 ⟨rfl, hb⟩
    clear x0 x1 x2
    have HB4 := hid (then_w HB3.out hb)
    have HX4 := hid (HX3.out.later hb)
    have HK4 := hid (HK3.out.later hb)
    clear hb
    clear HB3 HX3 HK3
    go_wp2_with fail
    go_ret
    exact ⟨rfl, HB4.out⟩
  have hI60 : ¬ (60 : Int) < (h.objs.length : Int) := by omega
  by_cases h12 : 12 ≤ h.objs.length
  case neg =>
    have hI12 : (h.objs.length : Int) < 12 := by omega
    have x0 := HX3.out.cell 0
    have x1 := HX3.out.cell 1
    have x2 := HX3.out.cell 2
    simp only [List.getElem?_toArray, List.getElem?_cons_zero, List.getElem?_cons_succ] at x0 x1 x2
    go_wp2_with fail
    refine (fixed13_any _).mono ?_
    rintro e w4 ⟨rfl, hb⟩
    clear x0 x1 x2
    have HB4 := hid (then_w HB3.out hb)
    have HX4 := hid (HX3.out.later hb)
    have HK4 := hid (HK3.out.later hb)
    clear hb
    clear HB3 HX3 HK3
    go_wp2_with fail
    go_ret
    exact ⟨rfl, HB4.out⟩
  have hI12 : ¬ (h.objs.length : Int) < 12 := by omega
  have H12 := hid h12
  have H60 := hid h60
  have x0 := HX3.out.cell 0
  have x1 := HX3.out.cell 1
  have x2 := HX3.out.cell 2
  simp only [List.getElem?_toArray, List.getElem?_cons_zero, List.getElem?_cons_succ] at x0 x1 x2
  go_wp2_with fail
  refine (rmay_any h A c _ (HS.out.below HB3.out) HF.out).mono ?_
  rintro e w4 ⟨rfl, hb⟩
  clear x0 x1 x2
  have HB4 := hid (then_w HB3.out hb)
  have HX4 := hid (HX3.out.later hb)
  have HK4 := hid (HK3.out.later hb)
  clear hb
  clear HB3 HX3 HK3
  cases hm : mayB h
  · clear hm
    have x0 := HX4.out.cell 0
    have x1 := HX4.out.cell 1
    have x2 := HX4.out.cell 2
    simp only [List.getElem?_toArray, List.getElem?_cons_zero, List.getElem?_cons_succ] at x0 x1 x2
    go_wp2_with fail
    refine (fixed13_any _).mono ?_
    rintro e w5 ⟨rfl, hb⟩
    clear x0 x1 x2
    have HB5 := hid (then_w HB4.out hb)
    have HX5 := hid (HX4.out.later hb)
    have HK5 := hid (HK4.out.later hb)
    clear hb
    clear HB4 HX4 HK4
    go_wp2_with fail
    go_ret
    exact ⟨rfl, HB5.out⟩
  have HM := hid hm
  clear hm
  have hwp : IntKind.i64.wrap ((h.objs.length : Int) + 2) = (h.objs.length : Int) + 2 := IntWalk.i64_in _ (by omega)
  by_cases hca : (h.objs.length : Int) + 2 ≤ h.cap
  case neg =>
    have hIca : h.cap < (h.objs.length : Int) + 2 := by omega
    have x0 := HX4.out.cell 0
    have x1 := HX4.out.cell 1
    have x2 := HX4.out.cell 2
    simp only [List.getElem?_toArray, List.getElem?_cons_zero, List.getElem?_cons_succ] at x0 x1 x2
    go_wp2_with fail
    refine (fixed13_any _).mono ?_
    rintro e w5 ⟨rfl, hb⟩
    clear x0 x1 x2
    have HB5 := hid (then_w HB4.out hb)
    have HX5 := hid (HX4.out.later hb)
    have HK5 := hid (HK4.out.later hb)
    clear hb
    clear HB4 HX4 HK4
    go_wp2_with fail
    go_ret
    exact ⟨rfl, HB5.out⟩
  have hIca : ¬ h.cap < (h.objs.length : Int) + 2 := by omega
  have HCA := hid hca
  by_cases hd0 : 0 ≤ d
  case neg =>
    have hId0 : d < 0 := by omega
    have x0 := HX4.out.cell 0
    have x1 := HX4.out.cell 1
    have x2 := HX4.out.cell 2
    simp only [List.getElem?_toArray, List.getElem?_cons_zero, List.getElem?_cons_succ] at x0 x1 x2
    go_wp2_with fail
    refine (fixed13_any _).mono ?_
    rintro e w5 ⟨rfl, hb⟩
    clear x0 x1 x2
    have HB5 := hid (then_w HB4.out hb)
    have HX5 := hid (HX4.out.later hb)
    have HK5 := hid (HK4.out.later hb)
    clear hb
    clear HB4 HX4 HK4
    go_wp2_with fail
    go_ret
    exact ⟨rfl, HB5.out⟩
  have hId0 : ¬ d < 0 := by omega
  have HD0 := hid hd0
  by_cases hd3 : d ≤ 3
  case neg =>
    have hId3 : 3 < d := by omega
    have x0 := HX4.out.cell 0
    have x1 := HX4.out.cell 1
    have x2 := HX4.out.cell 2
    simp only [List.getElem?_toArray, List.getElem?_cons_zero, List.getElem?_cons_succ] at x0 x1 x2
    go_wp2_with fail
    refine (fixed13_any _).mono ?_
    rintro e w5 ⟨rfl, hb⟩
    clear x0 x1 x2
    have HB5 := hid (then_w HB4.out hb)
    have HX5 := hid (HX4.out.later hb)
    have HK5 := hid (HK4.out.later hb)
    clear hb
    clear HB4 HX4 HK4
    go_wp2_with fail
    go_ret
    exact ⟨rfl, HB5.out⟩
  have hId3 : ¬ 3 < d := by omega
  have HD3 := hid hd3
  have x0 := HX4.out.cell 0
  have x1 := HX4.out.cell 1
  have x2 := HX4.out.cell 2
  simp only [List.getElem?_toArray, List.getElem?_cons_zero, List.getElem?_cons_succ] at x0 x1 x2
  go_wp2_with fail
  refine (rint_w13 m _).mono ?_
  rintro e w5 ⟨rfl, hb⟩
  clear x0 x1 x2
  have HB5 := hid (then_w HB4.out hb)
  have HX5 := hid (HX4.out.later hb)
  have HK5 := hid (HK4.out.later hb)
  clear hb
  clear HB4 HX4 HK4
  clear hI60 hI12 h60 h12 hwp hca hIca hd0 hId0 hd3 hId3
  have x0 := HX5.out.cell 0
  have x1 := HX5.out.cell 1
  have x2 := HX5.out.cell 2
  simp only [List.getElem?_toArray, List.getElem?_cons_zero, List.getElem?_cons_succ] at x0 x1 x2
  go_wp2_with fail
  refine (rint_w13 n _).mono ?_
  rintro e w6 ⟨rfl, hb⟩
  clear x0 x1 x2
  have HB6 := hid (then_w HB5.out hb)
  have HX6 := hid (HX5.out.later hb)
  have HK6 := hid (HK5.out.later hb)
  clear hb
  clear HB5 HX5 HK5
  cases s1 : smB m
  · have x0 := HX6.out.cell 0
    have x1 := HX6.out.cell 1
    have x2 := HX6.out.cell 2
    simp only [List.getElem?_toArray, List.getElem?_cons_zero, List.getElem?_cons_succ] at x0 x1 x2
    go_wp2_with fail
    go_ret
    exact ⟨rfl, HB6.out⟩
  cases s2 : smB n
  · have x0 := HX6.out.cell 0
    have x1 := HX6.out.cell 1
    have x2 := HX6.out.cell 2
    simp only [List.getElem?_toArray, List.getElem?_cons_zero, List.getElem?_cons_succ] at x0 x1 x2
    go_wp2_with fail
    go_ret
    exact ⟨rfl, HB6.out⟩
  rw [show inV13 m = 2 * m + 1 by unfold inV13; rw [if_pos s1], show inV13 n = 2 * n + 1 by unfold inV13; rw [if_pos s2]]
  have D := flo13 HM.out H12.out HCA.out HD0.out HD3.out s1 s2 HWD.out
  obtain ⟨bt, hbt⟩ : ∃ y, y = fOp d (fOf m) (fOf n) := ⟨_, rfl⟩
  have HBT := hid hbt
  rw [← hbt] at D
  obtain ⟨g, hg⟩ : ∃ y, y = nfH13 h bt := ⟨_, rfl⟩
  rw [← hg] at D
  obtain ⟨k, hk⟩ : ∃ y, y = nfH13 g (fOf m) := ⟨_, rfl⟩
  rw [← hk] at D
  obtain ⟨a, ha⟩ : ∃ y, y = 2 * m + 1 := ⟨_, rfl⟩
  obtain ⟨b, hb9⟩ : ∃ y, y = 2 * n + 1 := ⟨_, rfl⟩
  obtain ⟨v2, hv2⟩ : ∃ y, y = 2 * ((h.objs.length : Int) + 1) := ⟨_, rfl⟩
  obtain ⟨nm, hnm⟩ : ∃ y, y = 17 + d := ⟨_, rfl⟩
  have D1 := hid D.f1
  have D2 := hid D.f2
  have D3 := hid D.f3
  have GF : Hid g.Fit := may_fit D.gm
  have KF : Hid k.Fit := may_fit D.km
  have GW := hid D.gw
  have KW := hid D.kw
  have GL := hid D.gl
  have OB := hid D.ob
  rw [← ha] at D1 D2 D3 ⊢
  rw [← hb9] at D1 ⊢
  rw [← hv2] at D2 D3
  rw [← hnm] at D1
  have HNM : Hid (IntKind.i64.wrap (17 + d) = nm) := by show _ = _; rw [hnm]; exact IntWalk.i64_in _ (by have := HD0.out; have := HD3.out; omega)
  clear D hbt hg hk ha hb9 hv2 hnm s1 s2
  have hnm := HNM.out
  have x0 := HX6.out.cell 0
  have x1 := HX6.out.cell 1
  have x2 := HX6.out.cell 2
  simp only [List.getElem?_toArray, List.getElem?_cons_zero, List.getElem?_cons_succ] at x0 x1 x2
  go_wp2_with fail
  obtain ⟨w7, hw⟩ : ∃ y_, y_ = w6.alloc (.cells #[.int .i64 b] 3) := ⟨_, rfl⟩
  obtain ⟨b7, hbx⟩ : ∃ y_, y_ = w6.heap.size := ⟨_, rfl⟩
  have hb : Below w6.heap.size w6 w7 := by rw [hw]; exact below_alloc _ _
  have hl : Lies w7 b7 3 #[.int .i64 b] := by rw [hw, hbx]; exact Lies.new _ _ _
  rw [← hw, ← hbx]
  clear hw hbx
  clear x0 x1 x2
  have HB7 := hid (then_w HB6.out hb)
  have HX7 := hid (HX6.out.later hb)
  have HK7 := hid (HK6.out.later hb)
  clear hb
  clear HB6 HX6 HK6
  refine (cdo_any13 h nm a [b] (some ⟨b7, 0, none⟩) 1 A c _ (HS.out.below HB7.out) HF.out (lies_ints13 hl rfl) (by simp) HWD.out).mono ?_
  rintro e w8 ⟨A2, c2, rfl, ⟨l2, ho2, hm2⟩, hb⟩
  rw [D1.out] at hm2
  rw [D1.out]
  have QM2 : Hid (l2.map (·.o) = g.objs) := hm2
  clear hm2 hnm
  clear hl
  have HB8 := hid (then_w HB7.out hb)
  have HX8 := hid (HX7.out.later hb)
  have HK8 := hid (HK7.out.later hb)
  clear hb
  clear HB7 HX7 HK7
  have Q8 := hid ho2
  clear ho2
  go_upto_region 9 with fail
  obtain ⟨w9, hw⟩ : ∃ x, x = w8.alloc (.cells #[.slice A2 g.objs.length c2, .int .i64 g.cap, .int .i64 g.last] 24) := ⟨_, rfl⟩
  obtain ⟨bg, hbx⟩ : ∃ x, x = w8.heap.size := ⟨_, rfl⟩
  have G9 : Hid (Lies w9 bg 24 #[.slice A2 g.objs.length c2, .int .i64 g.cap, .int .i64 g.last]) := by show Lies _ _ _ _; rw [hw, hbx]; exact Lies.new _ _ _
  have hb : Below w8.heap.size w8 w9 := by rw [hw]; exact below_alloc _ _
  rw [← hw, ← hbx]
  have ne_HX_G : Hid (w.heap.size ≠ bg) := by show _ ≠ _; rw [hbx]; exact Nat.ne_of_lt HX8.out.lt
  have ne_HK_G : Hid ((w.heap.size + 1) ≠ bg) := by show _ ≠ _; rw [hbx]; exact Nat.ne_of_lt HK8.out.lt
  have at_G : Hid (bg = w8.heap.size) := hbx
  have le_HB_G : Hid (w.heap.size ≤ bg) := by show _ ≤ _; rw [hbx]; exact HB8.out.size
  clear hbx hw
  have HB9 := hid (then_w HB8.out hb)
  have HX9 := hid (HX8.out.later hb)
  have HK9 := hid (HK8.out.later hb)
  have Q9 := hid (Q8.out.later hb)
  clear hb
  clear HB8 HX8 HK8 Q8
  have hw1 : IntKind.i64.wrap ((h.objs.length : Int) + 1) = (h.objs.length : Int) + 1 := IntWalk.i64_in _ (by have := H60.out; omega)
  have hw2 : IntKind.i64.wrap (2 * (h.objs.length : Int)) = 2 * (h.objs.length : Int) := IntWalk.i64_in _ (by have := H60.out; omega)
  have hgl : (g.objs.length : Int) = (h.objs.length : Int) + 1 := by have := GL.out; omega
  have x0 := HX9.out.cell 0
  have x1 := HX9.out.cell 1
  have x2 := HX9.out.cell 2
  simp only [List.getElem?_toArray, List.getElem?_cons_zero, List.getElem?_cons_succ] at x0 x1 x2
  have g_0 := G9.out.cell 0
  have g_1 := G9.out.cell 1
  have g_2 := G9.out.cell 2
  simp only [List.getElem?_toArray, List.getElem?_cons_zero, List.getElem?_cons_succ] at g_0 g_1 g_2
  go_upto_region 11 with fail
  clear hw1 hw2 hgl
  clear x0 x1 x2 g_0 g_1 g_2
  obtain ⟨o, ho, ok, oc, ob⟩ := OB.out
  have OK := hid (And.intro ok (And.intro oc ob))
  clear ok oc ob
  obtain ⟨bq, off, hA2, hlt, hcq⟩ := (own_obs Q9.out QM2.out) (by have := GL.out; omega)
  obtain ⟨So, dd, hob, -, -, -⟩ := hcq _ o ho
  obtain ⟨c0, c1, c2_, c3_, c4, c5⟩ := hob
  have hgn : h.objs.length < g.objs.length := by have := GL.out; omega
  have hgi : (h.objs.length : Int) < (g.objs.length : Int) := by omega
  have hgz : (0 : Int) ≤ (h.objs.length : Int) := by omega
  clear hcq hlt ho
  have x0 := HX9.out.cell 0
  have x1 := HX9.out.cell 1
  have x2 := HX9.out.cell 2
  simp only [List.getElem?_toArray, List.getElem?_cons_zero, List.getElem?_cons_succ] at x0 x1 x2
  have g_0 := G9.out.cell 0
  have g_1 := G9.out.cell 1
  have g_2 := G9.out.cell 2
  simp only [List.getElem?_toArray, List.getElem?_cons_zero, List.getElem?_cons_succ] at g_0 g_1 g_2
  rw [hA2] at g_0
  go_upto_region 12 with fail
  obtain ⟨w10, hw⟩ : ∃ x, x = w9.alloc (.cells #[.int .i64 o.cls, .int .i64 o.kind, .slice So o.slots.length dd, .string o.text, .int .i64 o.bits, .int .i64 o.hash] 41) := ⟨_, rfl⟩
  obtain ⟨bo, hbx⟩ : ∃ x, x = w9.heap.size := ⟨_, rfl⟩
  have O10 : Hid (Lies w10 bo 41 #[.int .i64 o.cls, .int .i64 o.kind, .slice So o.slots.length dd, .string o.text, .int .i64 o.bits, .int .i64 o.hash]) := by show Lies _ _ _ _; rw [hw, hbx]; exact Lies.new _ _ _
  have hb : Below w9.heap.size w9 w10 := by rw [hw]; exact below_alloc _ _
  rw [← hw, ← hbx]
  clear hw hbx hA2 c0 c1 c2_ c3_ c4 c5 hgn hgi hgz x0 x1 x2 g_0 g_1 g_2
  have HB10 := hid (then_w HB9.out hb)
  have HX10 := hid (HX9.out.later hb)
  have HK10 := hid (HK9.out.later hb)
  have G10 := hid (G9.out.later hb)
  have Q10 := hid (Q9.out.later hb)
  clear hb
  clear HB9 HX9 HK9 G9 Q9
  have g_0 := G10.out.cell 0
  have g_1 := G10.out.cell 1
  have g_2 := G10.out.cell 2
  simp only [List.getElem?_toArray, List.getElem?_cons_zero, List.getElem?_cons_succ] at g_0 g_1 g_2
  go_wp2_with fail
  clear g_0 g_1 g_2
  refine (cdo_any13 g 24 a [] none 0 A2 c2 _ (own_obs Q10.out QM2.out) GF.out (fun h => absurd h (by decide)) (by decide) GW.out).mono ?_
  rintro e w11 ⟨A3, c3, rfl, ⟨l3, ho3, hm3⟩, hb⟩
  rw [D2.out] at hm3
  rw [D2.out]
  have RM3 : Hid (l3.map (·.o) = k.objs) := hm3
  clear hm3
  have HB11 := hid (then_w HB10.out hb)
  have HX11 := hid (HX10.out.later hb)
  have HK11 := hid (HK10.out.later hb)
  have G11 := hid (G10.out.later hb)
  have O11 := hid (O10.out.later hb)
  have Q11 := hid (Q10.out.later hb)
  clear hb
  clear HB10 HX10 HK10 G10 O10 Q10
  have P11 := hid ho3
  clear ho3
  go_upto_region 13 with fail
  obtain ⟨w12, hw⟩ : ∃ x, x = w11.alloc (.cells #[.slice A3 k.objs.length c3, .int .i64 k.cap, .int .i64 k.last] 24) := ⟨_, rfl⟩
  obtain ⟨bk, hbx⟩ : ∃ x, x = w11.heap.size := ⟨_, rfl⟩
  have K12 : Hid (Lies w12 bk 24 #[.slice A3 k.objs.length c3, .int .i64 k.cap, .int .i64 k.last]) := by show Lies _ _ _ _; rw [hw, hbx]; exact Lies.new _ _ _
  have hb : Below w11.heap.size w11 w12 := by rw [hw]; exact below_alloc _ _
  rw [← hw, ← hbx]
  have ne_HX_K : Hid (w.heap.size ≠ bk) := by show _ ≠ _; rw [hbx]; exact Nat.ne_of_lt HX11.out.lt
  have ne_HK_K : Hid ((w.heap.size + 1) ≠ bk) := by show _ ≠ _; rw [hbx]; exact Nat.ne_of_lt HK11.out.lt
  have ne_G_K : Hid (bg ≠ bk) := by show _ ≠ _; rw [hbx]; exact Nat.ne_of_lt G11.out.lt
  have ne_O_K : Hid (bo ≠ bk) := by show _ ≠ _; rw [hbx]; exact Nat.ne_of_lt O11.out.lt
  have at_K : Hid (bk = w11.heap.size) := hbx
  have le_HB_K : Hid (w.heap.size ≤ bk) := by show _ ≤ _; rw [hbx]; exact HB11.out.size
  clear hbx hw
  have HB12 := hid (then_w HB11.out hb)
  have HX12 := hid (HX11.out.later hb)
  have HK12 := hid (HK11.out.later hb)
  have G12 := hid (G11.out.later hb)
  have O12 := hid (O11.out.later hb)
  have Q12 := hid (Q11.out.later hb)
  have P12 := hid (P11.out.later hb)
  clear hb
  clear HB11 HX11 HK11 G11 O11 Q11 P11
  have m_0 := K12.out.cell 0
  have m_1 := K12.out.cell 1
  have m_2 := K12.out.cell 2
  simp only [List.getElem?_toArray, List.getElem?_cons_zero, List.getElem?_cons_succ] at m_0 m_1 m_2
  go_wp2_with fail
  clear m_0 m_1 m_2
  refine (cdo_any13 k 23 v2 [] none 0 A3 c3 _ (own_obs P12.out RM3.out) KF.out (fun h => absurd h (by decide)) (by decide) KW.out).mono ?_
  rintro e w13 ⟨A4, c4, rfl, -, hb⟩
  rw [D3.out]
  have HB13 := hid (then_w HB12.out hb)
  have HX13 := hid (HX12.out.later hb)
  have HK13 := hid (HK12.out.later hb)
  have G13 := hid (G12.out.later hb)
  have O13 := hid (O12.out.later hb)
  have K13 := hid (K12.out.later hb)
  have Q13 := hid (Q12.out.later hb)
  have P13 := hid (P12.out.later hb)
  clear hb
  clear HB12 HX12 HK12 G12 O12 K12 Q12 P12
  go_upto_region 14 with fail
  obtain ⟨w14, hw⟩ : ∃ x, x = w13.alloc (.cells #[.slice A4 k.objs.length c4, .int .i64 k.cap, .int .i64 k.last] 24) := ⟨_, rfl⟩
  have hb : Below w13.heap.size w13 w14 := by rw [hw]; exact below_alloc _ _
  rw [← hw]
  clear hw
  have HB14 := hid (then_w HB13.out hb)
  have HX14 := hid (HX13.out.later hb)
  have HK14 := hid (HK13.out.later hb)
  have G14 := hid (G13.out.later hb)
  have O14 := hid (O13.out.later hb)
  have K14 := hid (K13.out.later hb)
  have Q14 := hid (Q13.out.later hb)
  have P14 := hid (P13.out.later hb)
  clear hb
  clear HB13 HX13 HK13 G13 O13 K13 Q13 P13
  obtain ⟨ok1, oc1, ob1⟩ := OK.out
  have o_0 := O14.out.cell 0
  have o_1 := O14.out.cell 1
  have o_2 := O14.out.cell 2
  have o_3 := O14.out.cell 3
  have o_4 := O14.out.cell 4
  have o_5 := O14.out.cell 5
  simp only [List.getElem?_toArray, List.getElem?_cons_zero, List.getElem?_cons_succ] at o_0 o_1 o_2 o_3 o_4 o_5
  rw [ok1] at o_1
  rw [oc1] at o_0
  rw [ob1] at o_4
  refine wp_region_held_drew (S := (fun w' => w'.cell? ⟨bo, 0, none⟩ = some (.int .i64 8) ∧ w'.cell? ⟨bo, 1, none⟩ = some (.int .i64 2) ∧ w'.cell? ⟨bo, 4, none⟩ = some (.int .i64 bt) ∧ Below w14.heap.size w14 w')) (by kernel_rfl) ?_ (fun hH0 => ?_)
  · exact ⟨cell_later (Below.refl w14.heap.size w14).drew o_0, cell_later (Below.refl w14.heap.size w14).drew o_1, cell_later (Below.refl w14.heap.size w14).drew o_4, (Below.refl _ _).drew⟩
  refine wpAnyH_take (i := 0) (oi := { dst := some 137, op := Go.Op.fieldAddr 41 (Go.Operand.tmp 16) 1, type := 0, pos := "law.go:124", after := #[], guard := none }) (v := ?vv1) rfl (by kernel_rfl) (by kernel_rfl) (by kernel_rfl) (fun _ _ _ h => h) (Or.inl ⟨by rfl, ?hy1⟩) (by assumption) ?rr1
  case hy1 => intro w hSw; (try dsimp only at hSw); go_simp; all_goals with_reducible rfl
  try simp only [Act.put, List.setIfInBounds_toArray, List.set_cons_zero, List.set_cons_succ]
  refine wpAnyH_take (i := 1) (oi := { dst := some 138, op := Go.Op.load 3 (Go.Operand.tmp 137), type := 3, pos := "law.go:124", after := #[{ on := 0, ground := Go.Ground.data }], guard := none }) (v := ?vv2) rfl (by kernel_rfl) (by kernel_rfl) (by kernel_rfl) (fun _ _ _ h => h) (Or.inl ⟨by rfl, ?hy2⟩) (by assumption) ?rr2
  case hy2 => intro w hSw; (try dsimp only at hSw); go_simp; all_goals with_reducible rfl
  try simp only [Act.put, List.setIfInBounds_toArray, List.set_cons_zero, List.set_cons_succ]
  refine wpAnyH_take (i := 2) (oi := { dst := some 139, op := Go.Op.binOp Go.BinOp.eql 3 (Go.Operand.tmp 138) (Go.Operand.const (Go.Value.int Go.IntKind.i64 2)) 3, type := 4, pos := "law.go:124", after := #[{ on := 1, ground := Go.Ground.data }], guard := none }) (v := ?vv3) rfl (by kernel_rfl) (by kernel_rfl) (by kernel_rfl) (fun _ _ _ h => h) (Or.inl ⟨by rfl, ?hy3⟩) (by assumption) ?rr3
  case hy3 => intro w hSw; (try dsimp only at hSw); go_simp; all_goals with_reducible rfl
  try simp only [Act.put, List.setIfInBounds_toArray, List.set_cons_zero, List.set_cons_succ]
  refine wpAnyH_take (i := 3) (oi := { dst := some 140, op := Go.Op.move (Go.Operand.tmp 139), type := 4, pos := "law.go:124", after := #[{ on := 2, ground := Go.Ground.data }], guard := none }) (v := ?vv4) rfl (by kernel_rfl) (by kernel_rfl) (by kernel_rfl) (fun _ _ _ h => h) (Or.inl ⟨by rfl, ?hy4⟩) (by assumption) ?rr4
  case hy4 => intro w hSw; (try dsimp only at hSw); go_simp; all_goals with_reducible rfl
  try simp only [Act.put, List.setIfInBounds_toArray, List.set_cons_zero, List.set_cons_succ]
  refine wpAnyH_take (i := 4) (oi := { dst := some 141, op := Go.Op.fieldAddr 41 (Go.Operand.tmp 16) 0, type := 0, pos := "law.go:124", after := #[{ on := 3, ground := Go.Ground.guard }], guard := some (3, true) }) (v := ?vv5) rfl (by kernel_rfl) (by kernel_rfl) (by kernel_rfl) (fun _ _ _ h => h) (Or.inl ⟨by rfl, ?hy5⟩) (by assumption) ?rr5
  case hy5 => intro w hSw; (try dsimp only at hSw); go_simp; all_goals with_reducible rfl
  try simp only [Act.put, List.setIfInBounds_toArray, List.set_cons_zero, List.set_cons_succ]
  refine wpAnyH_take (i := 5) (oi := { dst := some 142, op := Go.Op.load 3 (Go.Operand.tmp 141), type := 3, pos := "law.go:124", after := #[{ on := 4, ground := Go.Ground.data }, { on := 3, ground := Go.Ground.guard }], guard := some (3, true) }) (v := ?vv6) rfl (by kernel_rfl) (by kernel_rfl) (by kernel_rfl) (fun _ _ _ h => h) (Or.inl ⟨by rfl, ?hy6⟩) (by assumption) ?rr6
  case hy6 => intro w hSw; (try dsimp only at hSw); go_simp; all_goals with_reducible rfl
  try simp only [Act.put, List.setIfInBounds_toArray, List.set_cons_zero, List.set_cons_succ]
  refine wpAnyH_take (i := 6) (oi := { dst := some 143, op := Go.Op.binOp Go.BinOp.eql 3 (Go.Operand.tmp 142) (Go.Operand.const (Go.Value.int Go.IntKind.i64 8)) 3, type := 4, pos := "law.go:124", after := #[{ on := 5, ground := Go.Ground.data }, { on := 3, ground := Go.Ground.guard }], guard := some (3, true) }) (v := ?vv7) rfl (by kernel_rfl) (by kernel_rfl) (by kernel_rfl) (fun _ _ _ h => h) (Or.inl ⟨by rfl, ?hy7⟩) (by assumption) ?rr7
  case hy7 => intro w hSw; (try dsimp only at hSw); go_simp; all_goals with_reducible rfl
  try simp only [Act.put, List.setIfInBounds_toArray, List.set_cons_zero, List.set_cons_succ]
  refine wpAnyH_take (i := 7) (oi := { dst := some 144, op := Go.Op.pick (Go.Operand.tmp 140) (Go.Operand.tmp 143) (Go.Operand.const (Go.Value.bool false)), type := 4, pos := "law.go:124", after := #[{ on := 3, ground := Go.Ground.data }, { on := 6, ground := Go.Ground.data }], guard := none }) (v := ?vv8) rfl (by kernel_rfl) (by kernel_rfl) (by kernel_rfl) (fun _ _ _ h => h) (Or.inl ⟨by rfl, ?hy8⟩) (by assumption) ?rr8
  case hy8 => intro w hSw; (try dsimp only at hSw); go_simp; all_goals with_reducible rfl
  try simp only [Act.put, List.setIfInBounds_toArray, List.set_cons_zero, List.set_cons_succ]
  refine wpAnyH_take (i := 8) (oi := { dst := some 145, op := Go.Op.move (Go.Operand.tmp 144), type := 4, pos := "law.go:124", after := #[{ on := 7, ground := Go.Ground.data }, { on := 3, ground := Go.Ground.chain }], guard := none }) (v := ?vv9) rfl (by kernel_rfl) (by kernel_rfl) (by kernel_rfl) (fun _ _ _ h => h) (Or.inl ⟨by rfl, ?hy9⟩) (by assumption) ?rr9
  case hy9 => intro w hSw; (try dsimp only at hSw); go_simp; all_goals with_reducible rfl
  try simp only [Act.put, List.setIfInBounds_toArray, List.set_cons_zero, List.set_cons_succ]
  refine wpAnyH_take (i := 9) (oi := { dst := some 146, op := Go.Op.fieldAddr 41 (Go.Operand.tmp 16) 4, type := 0, pos := "law.go:124", after := #[{ on := 8, ground := Go.Ground.guard }], guard := some (8, true) }) (v := ?vv10) rfl (by kernel_rfl) (by kernel_rfl) (by kernel_rfl) (fun _ _ _ h => h) (Or.inl ⟨by rfl, ?hy10⟩) (by assumption) ?rr10
  case hy10 => intro w hSw; (try dsimp only at hSw); go_simp; all_goals with_reducible rfl
  try simp only [Act.put, List.setIfInBounds_toArray, List.set_cons_zero, List.set_cons_succ]
  refine wpAnyH_take (i := 10) (oi := { dst := some 147, op := Go.Op.load 3 (Go.Operand.tmp 146), type := 3, pos := "law.go:124", after := #[{ on := 9, ground := Go.Ground.data }, { on := 8, ground := Go.Ground.guard }], guard := some (8, true) }) (v := ?vv11) rfl (by kernel_rfl) (by kernel_rfl) (by kernel_rfl) (fun _ _ _ h => h) (Or.inl ⟨by rfl, ?hy11⟩) (by assumption) ?rr11
  case hy11 => intro w hSw; (try dsimp only at hSw); go_simp; all_goals with_reducible rfl
  try simp only [Act.put, List.setIfInBounds_toArray, List.set_cons_zero, List.set_cons_succ]
  refine wpAnyH_take (i := 11) (oi := { dst := some 148, op := Go.Op.move (Go.Operand.tmp 1), type := 3, pos := "law.go:124", after := #[{ on := 8, ground := Go.Ground.guard }], guard := some (8, true) }) (v := ?vv12) rfl (by kernel_rfl) (by kernel_rfl) (by kernel_rfl) (fun _ _ _ h => h) (Or.inl ⟨by rfl, ?hy12⟩) (by assumption) ?rr12
  case hy12 => intro w hSw; (try dsimp only at hSw); go_simp; all_goals with_reducible rfl
  try simp only [Act.put, List.setIfInBounds_toArray, List.set_cons_zero, List.set_cons_succ]
  refine wpAnyH_take (i := 12) (oi := { dst := some 149, op := Go.Op.move (Go.Operand.tmp 7), type := 3, pos := "law.go:124", after := #[{ on := 8, ground := Go.Ground.guard }], guard := some (8, true) }) (v := ?vv13) rfl (by kernel_rfl) (by kernel_rfl) (by kernel_rfl) (fun _ _ _ h => h) (Or.inl ⟨by rfl, ?hy13⟩) (by assumption) ?rr13
  case hy13 => intro w hSw; (try dsimp only at hSw); go_simp; all_goals with_reducible rfl
  try simp only [Act.put, List.setIfInBounds_toArray, List.set_cons_zero, List.set_cons_succ]
  refine wpAnyH_take (i := 14) (oi := { dst := some 151, op := Go.Op.move (Go.Operand.tmp 8), type := 3, pos := "law.go:124", after := #[{ on := 8, ground := Go.Ground.guard }], guard := some (8, true) }) (v := ?vv14) rfl (by kernel_rfl) (by kernel_rfl) (by kernel_rfl) (fun _ _ _ h => h) (Or.inl ⟨by rfl, ?hy14⟩) (by assumption) ?rr14
  case hy14 => intro w hSw; (try dsimp only at hSw); go_simp; all_goals with_reducible rfl
  try simp only [Act.put, List.setIfInBounds_toArray, List.set_cons_zero, List.set_cons_succ]
  refine wpAnyH_ready (rs := [13]) (by kernel_rfl) (by simp) ?_
  refine AllReadyH.cons (i := 13) (o := { dst := some 150, op := Go.Op.call { callee := Go.Callee.value (Go.Operand.func 19), args := #[Go.Operand.tmp 149], argTypes := #[3] }, type := 3, pos := "law.go:124", after := #[{ on := 12, ground := Go.Ground.data }, { on := 8, ground := Go.Ground.chain }, { on := 8, ground := Go.Ground.guard }], guard := some (8, true) }) rfl (fun K hK => ?_) AllReadyH.nil
  go_simp
  go_at_call 19
  refine (rof_any _ _).mono ?_
  rintro e u1 ⟨rfl, rfl⟩
  refine hK.out _ _ ?_ (fun hH1 => ?_)
  · exact hH0
  clear hK K
  try simp only [Act.put, List.setIfInBounds_toArray, List.set_cons_zero, List.set_cons_succ]
  refine wpAnyH_ready (rs := [15]) (by kernel_rfl) (by simp) ?_
  refine AllReadyH.cons (i := 15) (o := { dst := some 152, op := Go.Op.call { callee := Go.Callee.value (Go.Operand.func 19), args := #[Go.Operand.tmp 151], argTypes := #[3] }, type := 3, pos := "law.go:124", after := #[{ on := 14, ground := Go.Ground.data }, { on := 13, ground := Go.Ground.chain }, { on := 8, ground := Go.Ground.guard }], guard := some (8, true) }) rfl (fun K hK => ?_) AllReadyH.nil
  go_simp
  go_at_call 19
  refine (rof_any _ _).mono ?_
  rintro e u2 ⟨rfl, rfl⟩
  refine hK.out _ _ ?_ (fun hH2 => ?_)
  · exact hH1
  clear hK K
  try simp only [Act.put, List.setIfInBounds_toArray, List.set_cons_zero, List.set_cons_succ]
  refine wpAnyH_ready (rs := [16]) (by kernel_rfl) (by simp) ?_
  refine AllReadyH.cons (i := 16) (o := { dst := some 153, op := Go.Op.call { callee := Go.Callee.value (Go.Operand.func 18), args := #[Go.Operand.tmp 148, Go.Operand.tmp 150, Go.Operand.tmp 152], argTypes := #[3, 3, 3] }, type := 3, pos := "law.go:124", after := #[{ on := 11, ground := Go.Ground.data }, { on := 13, ground := Go.Ground.data }, { on := 15, ground := Go.Ground.data }, { on := 15, ground := Go.Ground.chain }, { on := 8, ground := Go.Ground.guard }], guard := some (8, true) }) rfl (fun K hK => ?_) AllReadyH.nil
  go_simp
  go_at_call 18
  refine (rop_any (of_in13 m) (of_in13 n) (B := w14.heap.size) (w0 := w14) ⟨hH2.2.2.2, (hH2.2.2.2).size⟩).mono ?_
  rintro e u3 ⟨rfl, hon⟩
  rw [← HBT.out]
  refine hK.out _ _ ?_ (fun hH3 => ?_)
  · exact ⟨on_cell13 hon (by first | exact World.block_lt_of_cell? _ _ o_0) o_0, on_cell13 hon (by first | exact World.block_lt_of_cell? _ _ o_1) o_1, on_cell13 hon (by first | exact World.block_lt_of_cell? _ _ o_4) o_4, hon.1⟩
  clear hK K
  try simp only [Act.put, List.setIfInBounds_toArray, List.set_cons_zero, List.set_cons_succ]
  clear hon
  refine wpAnyH_take (i := 17) (oi := { dst := some 154, op := Go.Op.binOp Go.BinOp.eql 3 (Go.Operand.tmp 147) (Go.Operand.tmp 153) 3, type := 4, pos := "law.go:124", after := #[{ on := 10, ground := Go.Ground.data }, { on := 16, ground := Go.Ground.data }, { on := 8, ground := Go.Ground.guard }], guard := some (8, true) }) (v := ?vv15) rfl (by kernel_rfl) (by kernel_rfl) (by kernel_rfl) (fun _ _ _ h => h) (Or.inl ⟨by rfl, ?hy15⟩) (by assumption) ?rr15
  case hy15 => intro w hSw; (try dsimp only at hSw); go_simp; all_goals with_reducible rfl
  try simp only [Act.put, List.setIfInBounds_toArray, List.set_cons_zero, List.set_cons_succ]
  refine wpAnyH_take (i := 18) (oi := { dst := some 155, op := Go.Op.pick (Go.Operand.tmp 145) (Go.Operand.tmp 154) (Go.Operand.const (Go.Value.bool false)), type := 4, pos := "law.go:124", after := #[{ on := 8, ground := Go.Ground.data }, { on := 17, ground := Go.Ground.data }], guard := none }) (v := ?vv16) rfl (by kernel_rfl) (by kernel_rfl) (by kernel_rfl) (fun _ _ _ h => h) (Or.inl ⟨by rfl, ?hy16⟩) (by assumption) ?rr16
  case hy16 => intro w hSw; (try dsimp only at hSw); go_simp; all_goals with_reducible rfl
  try simp only [Act.put, List.setIfInBounds_toArray, List.set_cons_zero, List.set_cons_succ]
  refine wpAnyH_take (i := 19) (oi := { dst := some 156, op := Go.Op.move (Go.Operand.tmp 155), type := 4, pos := "law.go:124", after := #[{ on := 18, ground := Go.Ground.data }, { on := 16, ground := Go.Ground.chain }], guard := none }) (v := ?vv17) rfl (by kernel_rfl) (by kernel_rfl) (by kernel_rfl) (fun _ _ _ h => h) (Or.inl ⟨by rfl, ?hy17⟩) (by assumption) ?rr17
  case hy17 => intro w hSw; (try dsimp only at hSw); go_simp; all_goals with_reducible rfl
  try simp only [Act.put, List.setIfInBounds_toArray, List.set_cons_zero, List.set_cons_succ]
  refine wpAnyH_take (i := 20) (oi := { dst := some 157, op := Go.Op.move (Go.Operand.tmp 19), type := 30, pos := "law.go:124", after := #[{ on := 19, ground := Go.Ground.guard }], guard := some (19, true) }) (v := ?vv18) rfl (by kernel_rfl) (by kernel_rfl) (by kernel_rfl) (fun _ _ _ h => h) (Or.inl ⟨by rfl, ?hy18⟩) (by assumption) ?rr18
  case hy18 => intro w hSw; (try dsimp only at hSw); go_simp; all_goals with_reducible rfl
  try simp only [Act.put, List.setIfInBounds_toArray, List.set_cons_zero, List.set_cons_succ]
  refine wpAnyH_take (i := 21) (oi := { dst := some 158, op := Go.Op.binOp Go.BinOp.eql 30 (Go.Operand.tmp 157) (Go.Operand.const (Go.Value.int Go.IntKind.i64 0)) 30, type := 4, pos := "law.go:124", after := #[{ on := 20, ground := Go.Ground.data }, { on := 19, ground := Go.Ground.guard }], guard := some (19, true) }) (v := ?vv19) rfl (by kernel_rfl) (by kernel_rfl) (by kernel_rfl) (fun _ _ _ h => h) (Or.inl ⟨by rfl, ?hy19⟩) (by assumption) ?rr19
  case hy19 => intro w hSw; (try dsimp only at hSw); go_simp; all_goals with_reducible rfl
  try simp only [Act.put, List.setIfInBounds_toArray, List.set_cons_zero, List.set_cons_succ]
  refine wpAnyH_take (i := 22) (oi := { dst := some 159, op := Go.Op.pick (Go.Operand.tmp 156) (Go.Operand.tmp 158) (Go.Operand.const (Go.Value.bool false)), type := 4, pos := "law.go:124", after := #[{ on := 19, ground := Go.Ground.data }, { on := 21, ground := Go.Ground.data }], guard := none }) (v := ?vv20) rfl (by kernel_rfl) (by kernel_rfl) (by kernel_rfl) (fun _ _ _ h => h) (Or.inl ⟨by rfl, ?hy20⟩) (by assumption) ?rr20
  case hy20 => intro w hSw; (try dsimp only at hSw); go_simp; all_goals with_reducible rfl
  try simp only [Act.put, List.setIfInBounds_toArray, List.set_cons_zero, List.set_cons_succ]
  refine wpAnyH_take (i := 23) (oi := { dst := some 160, op := Go.Op.move (Go.Operand.tmp 159), type := 4, pos := "law.go:124", after := #[{ on := 22, ground := Go.Ground.data }, { on := 19, ground := Go.Ground.chain }], guard := none }) (v := ?vv21) rfl (by kernel_rfl) (by kernel_rfl) (by kernel_rfl) (fun _ _ _ h => h) (Or.inl ⟨by rfl, ?hy21⟩) (by assumption) ?rr21
  case hy21 => intro w hSw; (try dsimp only at hSw); go_simp; all_goals with_reducible rfl
  try simp only [Act.put, List.setIfInBounds_toArray, List.set_cons_zero, List.set_cons_succ]
  refine wpAnyH_take (i := 24) (oi := { dst := some 161, op := Go.Op.move (Go.Operand.tmp 22), type := 30, pos := "law.go:124", after := #[{ on := 23, ground := Go.Ground.guard }], guard := some (23, true) }) (v := ?vv22) rfl (by kernel_rfl) (by kernel_rfl) (by kernel_rfl) (fun _ _ _ h => h) (Or.inl ⟨by rfl, ?hy22⟩) (by assumption) ?rr22
  case hy22 => intro w hSw; (try dsimp only at hSw); go_simp; all_goals with_reducible rfl
  try simp only [Act.put, List.setIfInBounds_toArray, List.set_cons_zero, List.set_cons_succ]
  refine wpAnyH_take (i := 25) (oi := { dst := some 162, op := Go.Op.binOp Go.BinOp.eql 30 (Go.Operand.tmp 161) (Go.Operand.const (Go.Value.int Go.IntKind.i64 0)) 30, type := 4, pos := "law.go:124", after := #[{ on := 24, ground := Go.Ground.data }, { on := 23, ground := Go.Ground.guard }], guard := some (23, true) }) (v := ?vv23) rfl (by kernel_rfl) (by kernel_rfl) (by kernel_rfl) (fun _ _ _ h => h) (Or.inl ⟨by rfl, ?hy23⟩) (by assumption) ?rr23
  case hy23 => intro w hSw; (try dsimp only at hSw); go_simp; all_goals with_reducible rfl
  try simp only [Act.put, List.setIfInBounds_toArray, List.set_cons_zero, List.set_cons_succ]
  refine wpAnyH_take (i := 26) (oi := { dst := some 163, op := Go.Op.pick (Go.Operand.tmp 160) (Go.Operand.tmp 162) (Go.Operand.const (Go.Value.bool false)), type := 4, pos := "law.go:124", after := #[{ on := 23, ground := Go.Ground.data }, { on := 25, ground := Go.Ground.data }], guard := none }) (v := ?vv24) rfl (by kernel_rfl) (by kernel_rfl) (by kernel_rfl) (fun _ _ _ h => h) (Or.inl ⟨by rfl, ?hy24⟩) (by assumption) ?rr24
  case hy24 => intro w hSw; (try dsimp only at hSw); go_simp; all_goals with_reducible rfl
  try simp only [Act.put, List.setIfInBounds_toArray, List.set_cons_zero, List.set_cons_succ]
  refine wpAnyH_take (i := 27) (oi := { dst := some 164, op := Go.Op.move (Go.Operand.tmp 163), type := 4, pos := "law.go:124", after := #[{ on := 26, ground := Go.Ground.data }, { on := 23, ground := Go.Ground.chain }], guard := none }) (v := ?vv25) rfl (by kernel_rfl) (by kernel_rfl) (by kernel_rfl) (fun _ _ _ h => h) (Or.inl ⟨by rfl, ?hy25⟩) (by assumption) ?rr25
  case hy25 => intro w hSw; (try dsimp only at hSw); go_simp; all_goals with_reducible rfl
  try simp only [Act.put, List.setIfInBounds_toArray, List.set_cons_zero, List.set_cons_succ]
  refine wpAnyH_take (i := 28) (oi := { dst := some 165, op := Go.Op.move (Go.Operand.tmp 21), type := 3, pos := "law.go:124", after := #[{ on := 27, ground := Go.Ground.guard }], guard := some (27, true) }) (v := ?vv26) rfl (by kernel_rfl) (by kernel_rfl) (by kernel_rfl) (fun _ _ _ h => h) (Or.inl ⟨by rfl, ?hy26⟩) (by assumption) ?rr26
  case hy26 => intro w hSw; (try dsimp only at hSw); go_simp; all_goals with_reducible rfl
  try simp only [Act.put, List.setIfInBounds_toArray, List.set_cons_zero, List.set_cons_succ]
  refine wpAnyH_take (i := 29) (oi := { dst := some 166, op := Go.Op.move (Go.Operand.tmp 9), type := 3, pos := "law.go:124", after := #[{ on := 27, ground := Go.Ground.guard }], guard := some (27, true) }) (v := ?vv27) rfl (by kernel_rfl) (by kernel_rfl) (by kernel_rfl) (fun _ _ _ h => h) (Or.inl ⟨by rfl, ?hy27⟩) (by assumption) ?rr27
  case hy27 => intro w hSw; (try dsimp only at hSw); go_simp; all_goals with_reducible rfl
  try simp only [Act.put, List.setIfInBounds_toArray, List.set_cons_zero, List.set_cons_succ]
  refine wpAnyH_take (i := 30) (oi := { dst := some 167, op := Go.Op.binOp Go.BinOp.eql 3 (Go.Operand.tmp 165) (Go.Operand.tmp 166) 3, type := 4, pos := "law.go:124", after := #[{ on := 28, ground := Go.Ground.data }, { on := 29, ground := Go.Ground.data }, { on := 27, ground := Go.Ground.guard }], guard := some (27, true) }) (v := ?vv28) rfl (by kernel_rfl) (by kernel_rfl) (by kernel_rfl) (fun _ _ _ h => h) (Or.inl ⟨by rfl, ?hy28⟩) (by assumption) ?rr28
  case hy28 => intro w hSw; (try dsimp only at hSw); go_simp; all_goals with_reducible rfl
  try simp only [Act.put, List.setIfInBounds_toArray, List.set_cons_zero, List.set_cons_succ]
  refine wpAnyH_take (i := 31) (oi := { dst := some 168, op := Go.Op.pick (Go.Operand.tmp 164) (Go.Operand.tmp 167) (Go.Operand.const (Go.Value.bool false)), type := 4, pos := "law.go:124", after := #[{ on := 27, ground := Go.Ground.data }, { on := 30, ground := Go.Ground.data }], guard := none }) (v := ?vv29) rfl (by kernel_rfl) (by kernel_rfl) (by kernel_rfl) (fun _ _ _ h => h) (Or.inl ⟨by rfl, ?hy29⟩) (by assumption) ?rr29
  case hy29 => intro w hSw; (try dsimp only at hSw); go_simp; all_goals with_reducible rfl
  try simp only [Act.put, List.setIfInBounds_toArray, List.set_cons_zero, List.set_cons_succ]
  refine wpAnyH_take (i := 32) (oi := { dst := some 6, op := Go.Op.assign (Go.Operand.tmp 168), type := 4, pos := "law.go:124", after := #[{ on := 31, ground := Go.Ground.data }, { on := 27, ground := Go.Ground.chain }, { on := 0, ground := Go.Ground.phase }, { on := 1, ground := Go.Ground.phase }, { on := 2, ground := Go.Ground.phase }, { on := 3, ground := Go.Ground.phase }, { on := 4, ground := Go.Ground.phase }, { on := 5, ground := Go.Ground.phase }, { on := 6, ground := Go.Ground.phase }, { on := 7, ground := Go.Ground.phase }, { on := 8, ground := Go.Ground.phase }, { on := 9, ground := Go.Ground.phase }, { on := 10, ground := Go.Ground.phase }, { on := 11, ground := Go.Ground.phase }, { on := 12, ground := Go.Ground.phase }, { on := 13, ground := Go.Ground.phase }, { on := 14, ground := Go.Ground.phase }, { on := 15, ground := Go.Ground.phase }, { on := 16, ground := Go.Ground.phase }, { on := 17, ground := Go.Ground.phase }, { on := 18, ground := Go.Ground.phase }, { on := 19, ground := Go.Ground.phase }, { on := 20, ground := Go.Ground.phase }, { on := 21, ground := Go.Ground.phase }, { on := 22, ground := Go.Ground.phase }, { on := 23, ground := Go.Ground.phase }, { on := 24, ground := Go.Ground.phase }, { on := 25, ground := Go.Ground.phase }, { on := 26, ground := Go.Ground.phase }, { on := 27, ground := Go.Ground.phase }, { on := 28, ground := Go.Ground.phase }, { on := 29, ground := Go.Ground.phase }, { on := 30, ground := Go.Ground.phase }, { on := 31, ground := Go.Ground.phase }], guard := none }) (v := ?vv30) rfl (by kernel_rfl) (by kernel_rfl) (by kernel_rfl) (fun _ _ _ h => h) (Or.inl ⟨by rfl, ?hy30⟩) (by assumption) ?rr30
  case hy30 => intro w hSw; (try dsimp only at hSw); go_simp; all_goals with_reducible rfl
  try simp only [Act.put, List.setIfInBounds_toArray, List.set_cons_zero, List.set_cons_succ]
  refine wpAnyH_done (by kernel_rfl) ?_ _
  go_wp2_with fail
  go_ret
  exact ⟨rfl, then_w HB14.out (hH3.2.2.2)⟩
end Go.Proofs.YtkpfmbdkfgeboaaGreat
namespace Go.Proofs.YtkpfmbdkfgeboaaGreat
open Go.ChangeShapes Go.WideShapes Go.ChangeAt Go.RowKit
set_option maxRecDepth 100000
namespace fnPrimFloats
theorem own : ownKnob Tryz.prog.godebug = none := by kernel_rfl
theorem laidOut : laidOutB Tryz.prog = true := by kernel_rfl
theorem lifted (os : Os) (started : os.Started) (H : Type) (enc : TypeId × Value → H) :
    ReturnsInHanded {} Tryz.checked os 6 .any (Rows.primFloatsSpec.pre6 enc Tryz.prog Tryz.f6 Rows.primFloatsRow.domain false) (Rows.primFloatsSpec.post enc Tryz.prog Tryz.f6 false true false false) := by
  refine returnsInHanded_of_change (C := Tryz.checked) own started (by kernel_rfl) Tryz.func6
    (ChangeSpec.witness6 (enc := enc) (C := Tryz.checked) false ⟨#[], #[.agg #[.slice none 0 0, .int .i64 0, .int .i64 0], .int .i64 0, .agg #[.int .i64 0, .int .i64 0]], []⟩ 8 (by kernel_rfl) (by kernel_rfl) (by kernel_rfl) (by kernel_rfl)) ?_
  intro W base args ds gs before hval0 hW hcnd _
  have hval : ∀ (j : Nat) t v, Tryz.f6.params[j]? = some t → args[j]? = some v → Value.okWide Tryz.prog W .any base t v := hval0
  have hW' := hW
  obtain ⟨p, q, hA0, hV, rfl, hfz, hnd⟩ := hW
  have hA : DataW.TrodAll enc Tryz.prog W 0 (fun _ => true) true Tryz.f6.params.toList args.toList ds p := hA0
  rw [Tryz.params6] at hA hval
  obtain ⟨v0, v1, v2, d0, d1, d2, p0, p1, p2, rfl, rfl, rfl, h0, h1, h2⟩ := trodAll_three hA
  obtain ⟨rfl, rfl⟩ := trodVars_none hV
  obtain ⟨hp0, A0, c0, rfl, ob0, ft0, wd0⟩ := open_heap13 (hval 0 24 v0 rfl rfl) h0
  obtain ⟨i1, rfl, -, -, -⟩ := open_int Tryz.underlying3 (hval 1 3 v1 rfl rfl) h1
  obtain ⟨a2, b2, rfl⟩ := open_two13 (hval 2 39 v2 rfl rfl) h2
  clear hA0 hval0
  simp only [List.append_nil] at hW'
  refine (primfloats_any13 hp0 i1 a2 b2 A0 c0 W ob0 ft0 wd0).mono fun e W' ⟨he, hb⟩ => ?_
  subst he
  exact ⟨_, rfl, law_post laidOut (by kernel_rfl) rfl (by kernel_rfl) Tryz.underlying4 hW' rfl hb⟩
end fnPrimFloats
theorem primFloats_holds : Rows.PrimFloatsSaid :=
  OpenClaim.holds_of_wide 6 Tryz.f6 rfl rfl rfl rfl rfl rfl rfl ⟨rfl, rfl, rfl, rfl, rfl⟩ rfl rfl rfl rfl rfl (by kernel_rfl) Tryz.func6 (by kernel_rfl)
    (of_decide_eq_true (by kernel_rfl)) (by unfold Func.isWrapper; first | (rw [if_pos (by decide +kernel)]; kernel_rfl) | (rw [if_neg (by decide +kernel)]; exact ⟨rfl, rfl⟩))
    (fun os started H enc _ => fnPrimFloats.lifted os started H enc)
end Go.Proofs.YtkpfmbdkfgeboaaGreat
