/- A new context, in plain mathematics: it is one, at its first instruction; its temporaries are its arguments, and nothing. -/
import Derived.Test.YtalfbdigjaibkaaGreatUN12
import Derived.Test.YtalfbdigjaibkaaGreatTR12
namespace Go.Proofs.YtalfbdigjaibkaaGreat
open Go.RowKit
set_option maxRecDepth 100000
theorem nh_at12 {h : Hp} {L : List Int} {v : Int} (hr : refB h.objs.length v = true) : obAt (nh12 h L) v = obAt h v := by
  obtain ⟨i, hi, e, -⟩ := obAt_get hr
  unfold obAt nh12
  rw [e, Int.toNat_natCast, List.getD_eq_getElem?_getD, List.getD_eq_getElem?_getD, List.getElem?_append_left hi]
theorem nh_kd12 {h : Hp} {L : List Int} {v : Int} (hr : refB h.objs.length v = true) (k : Int) : kd12 (nh12 h L) v k = kd12 h v k := by
  unfold kd12
  rw [nh_len12, nh_at12 hr, hr, ref_mono12 hr (Nat.le_succ _)]
theorem nh_sls12 {h : Hp} {L : List Int} {v : Int} (hr : refB h.objs.length v = true) : sls12 (nh12 h L) v = sls12 h v := by
  unfold sls12
  rw [nh_kd12 hr, nh_at12 hr]
theorem nh_mt12 {h : Hp} {L : List Int} (hm2 : mayB (nh12 h L) = true) {m : Int} (e : (mt12 h m).2 = 0) : mt12 (nh12 h L) m = mt12 h m := by
  obtain ⟨hb, -⟩ := mt_ok12 e
  obtain ⟨hm, h5, k3, k4, -⟩ := mb_parts12 hb
  have hr : refB h.objs.length m = true := (kd_ref12 (sls_some12 (fun z => by rw [z] at h5; cases h5)).1).1
  have e1 : sls12 (nh12 h L) m = sls12 h m := nh_sls12 hr
  have e2 : ∀ j, sl12 (nh12 h L) m j = sl12 h m j := fun j => by unfold sl12; rw [e1]
  have r3 := (kd_ref12 k3).1
  have r4 := (kd_ref12 k4).1
  have e3 : cd12 (nh12 h L) m = cd12 h m := by unfold cd12; rw [e2, nh_at12 r3]
  have e4 : sls12 (nh12 h L) (sl12 h m 4) = sls12 h (sl12 h m 4) := nh_sls12 r4
  have e5 : mx12 (nh12 h L) m = mx12 h m := by unfold mx12; simp only [e2, e3, e4]
  have e6 : mb12 (nh12 h L) m = mb12 h m := by
    unfold mb12
    rw [hm2, hm, e1, e2, e2, nh_kd12 r3, nh_kd12 r4, e3, e5]
  unfold mt12
  rw [e6, e5]
theorem nn_no12 {h : Hp} {sd m rc ho : Int} {args : List Int} (e : (nn12 h sd m rc ho args).2.2 ≠ 0) : (nn12 h sd m rc ho args).1 = h ∧ (nn12 h sd m rc ho args).2.1 = 0 := by
  unfold nn12 at e ⊢
  split
  · exact ⟨rfl, rfl⟩
  split
  · exact ⟨rfl, rfl⟩
  split
  · exact ⟨rfl, rfl⟩
  next h1 h2 h3 => rw [if_neg h1, if_neg h2, if_neg h3] at e; exact absurd rfl e
/-- the home of a new context -/
def hm12 (h : Hp) (ho : Int) : Int := if ho = 0 then 2 * (h.objs.length : Int) else ho
theorem nn_ok12 {h : Hp} {sd m rc ho : Int} {args : List Int} (e : (nn12 h sd m rc ho args).2.2 = 0) :
    (mt12 h m).2 = 0 ∧ (args.length : Int) = (mt12 h m).1.args ∧ refB h.objs.length sd = true ∧ refB h.objs.length ho = true ∧ hasB h.objs.length rc = true ∧ args.all (hasB h.objs.length) = true ∧ roE h 12 0 22 = 0 ∧
    (nn12 h sd m rc ho args).1 = nh12 h (nl12 sd (mt12 h m).1.temps m rc (hm12 h ho) args) ∧ (nn12 h sd m rc ho args).2.1 = 2 * (h.objs.length : Int) := by
  unfold nn12 at e ⊢
  split
  · next h1 => rw [if_pos h1] at e; cases e
  next h1 =>
  split
  · next h2 => rw [if_neg h1, if_pos h2] at e; cases e
  next h2 =>
  split
  · next h3 => rw [if_neg h1, if_neg h2, if_pos h3] at e; exact absurd e h3
  next h3 =>
  simp only [not_or, Bool.not_eq_false] at h1 h2
  refine ⟨by simpa using h1.1, by simpa using h1.2, h2.1, h2.2.1, h2.2.2.1, h2.2.2.2, by simpa using h3, rfl, rfl⟩
theorem nl_len12 {sd tp m rc hm : Int} {args : List Int} (ha : args.length ≤ 16) : (nl12 sd tp m rc hm args).length = 22 := by
  unfold nl12; simp; omega
theorem nl_arg12 {sd tp m rc hm : Int} {args : List Int} {k : Nat} : (nl12 sd tp m rc hm args).getD (6 + k) 0 = args.getD k 0 := by
  unfold nl12
  rw [List.getD_eq_getElem?_getD, List.getElem?_append_right (by simp), List.getD_eq_getElem?_getD]
  simp only [List.length_cons, List.length_nil, Nat.add_sub_cancel_left]
  rw [List.getElem?_append]
  split
  · rfl
  · rw [List.getElem?_replicate, List.getElem?_eq_none (by omega)]
    split <;> rfl
theorem ck_pos12 {l : List In} {a b : Int} (h : ck11 l a b = 0) : 0 < l.length := by
  cases l
  · exact absurd h (by unfold ck11 all11 end11; simp)
  · simp
/-- a new context is one, at its first instruction -/
theorem fresh12 {h : Hp} {sd m rc ho : Int} {args : List Int} (e : (nn12 h sd m rc ho args).2.2 = 0) :
    may12 (nn12 h sd m rc ho args).1 (2 * (h.objs.length : Int)) = true ∧ at12 (nn12 h sd m rc ho args).1 (2 * (h.objs.length : Int)) = (0, (mt12 h m).1.code.getD 0 ⟨0, 0⟩, 0) ∧
    (∀ k : Nat, (k : Int) < (mt12 h m).1.temps → te12 (nn12 h sd m rc ho args).1 (2 * (h.objs.length : Int)) k = (args.getD k 0, 0)) ∧ 0 < (mt12 h m).1.code.length ∧ (mt12 h m).1.temps ≤ 8 := by
  obtain ⟨m0, ha, rs, rh, hc, hall, hr, e1, -⟩ := nn_ok12 e
  obtain ⟨hb, hx⟩ := mt_ok12 m0
  obtain ⟨hm, h5, k3, k4, -, -, -, p8, p9⟩ := mb_parts12 hb
  have hcp := ck_pos12 p9
  rw [← hx] at hcp p8
  have ht8 : (mt12 h m).1.temps ≤ 8 := by
    rw [hx]
    have := sm_bd12 (v := sl12 h m 2) (most := 8)
    show sm12 _ 8 ≤ 8
    omega
  have ha8 : args.length ≤ 8 := by omega
  have hc256 : h.objs.length < 256 := by
    obtain ⟨-, -, -, -, -, -, hlt⟩ := ro_ok hr
    unfold mayB at hm
    simp only [Bool.and_eq_true, decide_eq_true_eq] at hm
    omega
  obtain ⟨r1, r2⟩ := ref_new12 hc256
  rw [e1]
  obtain ⟨L, hL⟩ : ∃ L, L = nl12 sd (mt12 h m).1.temps m rc (hm12 h ho) args := ⟨_, rfl⟩
  rw [← hL]
  have hl : L.length = 22 := by rw [hL]; exact nl_len12 (by omega)
  have mref : refB h.objs.length m = true := (kd_ref12 (sls_some12 (fun z => by rw [z] at h5; cases h5)).1).1
  have homer : refB (h.objs.length + 1) (hm12 h ho) = true := by
    unfold hm12
    split
    · exact r1
    · exact ref_mono12 rh (Nat.le_succ _)
  have rhas : ∀ {v : Int}, refB (h.objs.length + 1) v = true → hasB (h.objs.length + 1) v = true := fun g => by unfold hasB; rw [g, Bool.or_true]
  have hallL : L.all (hasB (h.objs.length + 1)) = true := by
    rw [hL]
    unfold nl12
    refine List.all_eq_true.2 fun x hx => ?_
    rcases List.mem_append.1 hx with g | g
    · simp only [List.mem_cons, List.not_mem_nil, or_false] at g
      rcases g with rfl | rfl | rfl | rfl | rfl | rfl
      · exact rhas (ref_mono12 rs (Nat.le_succ _))
      · exact odd_has12 (v := 0) (by decide) (by decide)
      · exact odd_has12 (by omega) (by omega)
      · exact rhas (ref_mono12 mref (Nat.le_succ _))
      · exact has_mono12 hc (Nat.le_succ _)
      · exact rhas homer
    · rcases List.mem_append.1 g with g | g
      · exact has_mono12 (List.all_eq_true.1 hall x g) (Nat.le_succ _)
      · rw [List.eq_of_mem_replicate g]; exact has_nil12 _ (Nat.succ_pos _)
  have hm2 := nh_mayL12 hr hl hallL
  have hlen := nh_len12 h L
  have hob := nh_ob12 L hc256
  have es : sls12 (nh12 h L) (2 * (h.objs.length : Int)) = L := by
    rw [sls_ref12 hm2 (by rw [hlen]; exact r1), hob]
  have ej : ∀ j, sl12 (nh12 h L) (2 * (h.objs.length : Int)) j = L.getD j 0 := fun j => by unfold sl12; rw [es]
  have j0 : L.getD 0 0 = sd := by rw [hL]; rfl
  have j1 : L.getD 1 0 = 1 := by rw [hL]; rfl
  have j2 : L.getD 2 0 = 2 * (mt12 h m).1.temps + 1 := by rw [hL]; rfl
  have j3 : L.getD 3 0 = m := by rw [hL]; rfl
  have j5 : L.getD 5 0 = hm12 h ho := by rw [hL]; rfl
  have em : mt12 (nh12 h L) (sl12 (nh12 h L) (2 * (h.objs.length : Int)) 3) = mt12 h m := by rw [ej, j3, nh_mt12 hm2 m0]
  have ec : cm12 (nh12 h L) (2 * (h.objs.length : Int)) = (mt12 h m).1 := by unfold cm12; rw [em]
  have s1 : sm12 1 ((mt12 h m).1.code.length - 1) = 0 := sm_odd12 (j := 0) (by decide) (by omega) (by have := code_le12 (h := h) (v := m); omega)
  have s64 : sm12 1 64 = 0 := by decide
  have t0 : 0 ≤ (mt12 h m).1.temps := by omega
  have s2 : sm12 (2 * (mt12 h m).1.temps + 1) 16 = (mt12 h m).1.temps := sm_odd12 t0 (by omega) (by decide)
  have rI : ∀ {v : Int}, refB (h.objs.length + 1) v = true → 0 ≤ refI (h.objs.length + 1) v := fun {v} g => by
    unfold refI
    rw [if_pos g]
    unfold refB at g
    simp only [Bool.and_eq_true] at g
    exact (atV_lt g.1).1
  have hmay : may12 (nh12 h L) (2 * (h.objs.length : Int)) = true := by
    unfold may12
    rw [hm2, es, hl, em, m0, hob, hlen, ej, ej, ej, ej, j0, j1, j2, j5, ec, s1, s2]
    have q0 := rI (ref_mono12 rs (Nat.le_succ _))
    have q5 := rI homer
    simp [q0, q5]
    rfl
  refine ⟨hmay, ?_, fun k hk => ?_, hcp, ht8⟩
  · unfold at12
    rw [if_neg (by rw [hmay]; decide), ej, j1, s64, ec]
    rfl
  · unfold te12
    rw [if_neg (by rw [hmay]; decide), if_neg (by rw [ec]; omega), ej, show (6 + (k : Int)).toNat = 6 + k by omega, hL, nl_arg12]
end Go.Proofs.YtalfbdigjaibkaaGreat
