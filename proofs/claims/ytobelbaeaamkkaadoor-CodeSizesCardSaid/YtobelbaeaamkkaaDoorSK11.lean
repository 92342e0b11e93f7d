/- The document's Parse. -/
import Derived.Test.YtobelbaeaamkkaaDoorSJ11
namespace Go.Proofs.YtobelbaeaamkkaaDoor
open Go.RowKit
set_option maxRecDepth 100000
/-- parsing, byte by byte -/
def goP11 (l : List In) (cur : List UInt8) : List UInt8 → List In × Int
  | [] => if cur = [] then (l, 0) else ([], 111)
  | c :: s => if c = 10 then (if (rdv11 cur).2 = false ∨ l.length = 32 then ([], 111) else goP11 (l ++ [(rdv11 cur).1]) [] s) else goP11 l (cur ++ [c]) s
def ends11 (l : List In) (k : Option (List In)) (r : List UInt8) : List In × Int := match k with
  | some k => if l.length + k.length ≤ 32 ∧ r = [] then (l ++ k, 0) else ([], 111)
  | none => ([], 111)
theorem spl_no11 {t : List UInt8} (h : ∀ b ∈ t, b ≠ 10) : spl11 t = ([], t) := by
  induction t with
  | nil => rfl
  | cons b t ih => rw [spl11, if_neg (h b (by simp)), ih fun c hc => h c (by simp [hc])]
theorem goP_ends11 (s : List UInt8) : ∀ (l : List In) (cur : List UInt8), l.length ≤ 32 → (∀ b ∈ cur, b ≠ 10) → goP11 l cur s = ends11 l ((spl11 (cur ++ s)).1.mapM rd11) (spl11 (cur ++ s)).2 := by
  induction s with
  | nil =>
    intro l cur hl hc
    rw [List.append_nil, spl_no11 hc]
    show (if cur = [] then (l, (0 : Int)) else ([], 111)) = (if l.length + 0 ≤ 32 ∧ cur = [] then (l ++ [], 0) else ([], 111))
    rw [List.append_nil]
    by_cases h : cur = []
    · rw [if_pos h, if_pos ⟨by omega, h⟩]
    · rw [if_neg h, if_neg (fun z => h z.2)]
  | cons c s ih =>
    intro l cur hl hc
    by_cases h10 : c = 10
    · subst h10
      rw [spl_line11 hc, goP11, if_pos rfl, List.mapM_cons]
      cases hr : rd11 cur with
      | none =>
        have e : rdv11 cur = (⟨0, 0⟩, false) := by unfold rdv11; rw [hr]
        rw [e, if_pos (.inl rfl)]; rfl
      | some x =>
        have e : rdv11 cur = (x, true) := by unfold rdv11; rw [hr]
        rw [e]
        by_cases h32 : l.length = 32
        · rw [if_pos (.inr h32)]
          cases hm : (spl11 s).1.mapM rd11 with
          | none => rfl
          | some k =>
            show _ = (if l.length + (x :: k).length ≤ 32 ∧ _ then _ else _)
            rw [if_neg (fun z => by have := z.1; rw [List.length_cons] at this; omega)]
        · rw [if_neg (by rintro (z | z); · cases z
                         · exact h32 z)]
          show goP11 (l ++ [x]) [] s = _
          have ih := ih (l ++ [x]) [] (by rw [List.length_append]; show _ + 1 ≤ _; omega) (fun b hb => by simp at hb)
          rw [List.nil_append] at ih
          rw [ih]
          cases hm : (spl11 s).1.mapM rd11 with
          | none => rfl
          | some k =>
            show (if (l ++ [x]).length + k.length ≤ 32 ∧ (spl11 s).2 = [] then (l ++ [x] ++ k, (0 : Int)) else ([], 111)) = (if l.length + (x :: k).length ≤ 32 ∧ (spl11 s).2 = [] then (l ++ x :: k, 0) else ([], 111))
            have e1 : (l ++ [x]).length + k.length = l.length + (x :: k).length := by simp; omega
            rw [e1, List.append_assoc]; rfl
    · rw [goP11, if_neg h10, ih l (cur ++ [c]) hl (fun b hb => by
        rcases List.mem_append.1 hb with h | h
        · exact hc b h
        · rw [List.mem_singleton] at h; rw [h]; exact h10), List.append_assoc]; rfl
theorem goP_is11 (b : List UInt8) : goP11 [] [] b = Pa11 b := by
  rw [goP_ends11 b [] [] (by simp) (fun c hc => by simp at hc)]
  unfold Pa11 ends11
  rw [List.nil_append]
  cases (spl11 b).1.mapM rd11 with
  | none => rfl
  | some k => simp
theorem wpList_append_run11 {P : Program} {w : World} {ops : Array Oper} {rest : List Oper} {o : Oper} {a : Act} {Q : Exit → Act → World → Prop} (hgd : o.guard = none) (s x : Operand) (t : TypeId)
    (ho : o.op = .call { callee := .builtin .append, args := #[s, x], argTypes := #[t, t] }) (v1 : Value) (w1 : World) (hrun : (Builtin.append_ #[t, t] o.type #[a.eval s, a.eval x]).run P w = .ok v1 w1)
    (h : wpList P ops Q rest (a.put o.dst v1) w1) : wpList P ops Q (o :: rest) a w :=
  wpList_plain hgd fun _ hK => wp_append_run11 s x t ho v1 w1 hrun (hK _ _ h)
def PaP11 (w : World) (b : List UInt8) (e : Ending) (w' : World) : Prop := ∃ A c, e = .returned (.tuple #[.slice A (Pa11 b).1.length c, .int .i64 (Pa11 b).2]) ∧ InsR w' A (Pa11 b).1 ∧ Below w.heap.size w w'
set_option maxHeartbeats 1500000 in
theorem parse_any11 (b : List UInt8) (w : World) (hb : b.length ≤ 1000) : Calls Tryd.prog 19 #[.string (str b)] w (PaP11 w b) := by
  have HB0 := hid (below_alloc w (.cells #[] 34))
  have HO0 : Hid ((w.alloc (.cells #[] 34)).ownsRow w.heap.size 34 2 (.slice (some ⟨w.heap.size, 0, none⟩) 0 0) ([] : List In).length (([] : List In).flatMap in211)) := own_empty11 w
  have sb := str_size b
  have HG0 := hid (goP_is11 b)
  go_enter Tryd.func19, Tryd.ntmps19
  go_wp2_with fail
  go_loopw [4, 5, 6] (fun v q i wr => ∃ (j at_ : Nat) (l : List In), j ≤ b.length ∧ at_ ≤ j ∧ i = .int .i64 j ∧ q = .int .i64 at_ ∧ l.length ≤ 32 ∧ Hid (goP11 l ((b.take j).drop at_) (b.drop j) = Pa11 b) ∧ wr.ownsRow w.heap.size 34 2 v l.length (l.flatMap in211) ∧ Below w.heap.size w wr) (fun _ _ i _ => b.length + 1 - (intOf i).toNat)
  case atStart => exact ⟨0, 0, [], by omega, by omega, rfl, rfl, by simp, HG0, HO0.out, HB0.out⟩
  case round =>
    rename World => w50
    obtain ⟨j, at_, l, hjl, hat, rfl, rfl, hl32, HG, ho, hb50⟩ := hrel
    have HO := hid ho
    have HB := hid hb50
    obtain ⟨A, c, hv, hins, -⟩ := own_ins11 ho
    subst hv
    have HINS := hid hins
    clear ho hb50 hins
    have hjw : IntKind.i64.wrap ((j : Int) + 1) = (j : Int) + 1 := IntWalk.i64_in _ ⟨by omega, by omega⟩
    have hj0 : (0 : Int) ≤ (j : Int) := by omega
    have hat0 : (0 : Int) ≤ (at_ : Int) := by omega
    have hatj : (at_ : Int) ≤ (j : Int) := by omega
    by_cases hj : j < b.length
    · have hjI : (j : Int) < (b.length : Int) := by omega
      have hjJ : (j : Int) ≤ (b.length : Int) := by omega
      have hjs : j < (str b).size := by omega
      obtain ⟨x, hx⟩ : ∃ x : UInt8, x = b[j]'hj := ⟨_, rfl⟩
      obtain ⟨y, hy⟩ : ∃ y : Int, y = (x.toNat : Int) := ⟨_, rfl⟩
      have e1 : (((str b)[j]'hjs).toNat : Int) = y := (congrArg (fun b : UInt8 => (b.toNat : Int)) (str_at b j hjs hj)).trans (by rw [← hx, hy])
      have HD : Hid (b.drop j = x :: b.drop (j + 1)) := by show _ = _; rw [List.drop_eq_getElem_cons hj, hx]
      have HTD : Hid ((b.take (j + 1)).drop at_ = (b.take j).drop at_ ++ [x]) := by
        show _ = _
        rw [List.take_succ_eq_append_getElem hj, List.drop_append_of_le_length (by rw [List.length_take]; omega), ← hx]
      by_cases h10 : x = 10
      · have hy10 : y = 10 := by rw [hy, h10]; rfl
        subst hy10
        have HST : Hid ((if (rdv11 ((b.take j).drop at_)).2 = false ∨ l.length = 32 then ([], 111) else goP11 (l ++ [(rdv11 ((b.take j).drop at_)).1]) [] (b.drop (j + 1))) = Pa11 b) := by
          show _ = _
          rw [← HG.out, HD.out]
          show _ = goP11 l _ (x :: _)
          rw [goP11, if_pos h10]
        have sx := str_extract b at_ j
        obtain ⟨u, hu⟩ : ∃ u, u = (b.take j).drop at_ := ⟨_, rfl⟩
        have HUL : Hid (u.length ≤ 1000) := by show _ ≤ _; rw [hu, List.length_drop, List.length_take]; omega
        rw [← hu] at sx HST
        clear hu h10 hx hy
        go_wp2_with fail
        refine (read_any11 u _ HUL.out).mono ?_
        obtain ⟨xo, xa, ok, hrv⟩ : ∃ a b c, rdv11 u = (⟨a, b⟩, c) := ⟨_, _, _, rfl⟩
        rw [hrv] at HST
        intro e w51 hrd
        obtain ⟨he, hb2⟩ := hrd
        rw [hrv] at he
        subst he
        have HB2 := hid (then_w HB.out hb2)
        have HO2 := hid (own_later HO.out hb2)
        clear hb2 hrv
        cases ok
        · have HP : Hid (Pa11 b = ([], 111)) := by show _ = _; rw [← HST.out, if_pos (.inl rfl)]
          go_wp2_with fail
          go_ret2
          exact ⟨none, 0, by rw [HP.out]; rfl, by rw [HP.out]; exact fun h => absurd h (by decide), HB2.out.alloc HB2.out.size _⟩
        · by_cases h32 : l.length = 32
          · have HP : Hid (Pa11 b = ([], 111)) := by show _ = _; rw [← HST.out, if_pos (.inr h32)]
            have h32I : (l.length : Int) = 32 := by omega
            have h32B : (l.length == 32) = true := by rw [h32]; rfl
            have h32C : ((l.length : Int) == 32) = true := by rw [h32I]; rfl
            go_wp2_with fail
            go_ret2
            exact ⟨none, 0, by rw [HP.out]; rfl, by rw [HP.out]; exact fun h => absurd h (by decide), HB2.out.alloc HB2.out.size _⟩
          · have HP : Hid (goP11 (l ++ [⟨xo, xa⟩]) [] (b.drop (j + 1)) = Pa11 b) := by
              show _ = _
              rw [← HST.out, if_neg (by rintro (z | z); · cases z
                                        · exact h32 z)]
            have h32I : ¬ (l.length : Int) = 32 := by omega
            have h32B : (l.length == 32) = false := beq_eq_false_iff_ne.2 h32
            have h32C : ((l.length : Int) == 32) = false := beq_eq_false_iff_ne.2 h32I
            go_upto_region 10 with fail
            obtain ⟨w52, hw⟩ : ∃ u, u = w51.alloc (.cells #[.int .i64 xo, .int .i64 xa] 34) := ⟨_, rfl⟩
            have hb3 : Below w51.heap.size w51 w52 := by rw [hw]; exact below_alloc _ _
            have HK := hid (show Lies w52 w51.heap.size 34 #[.int .i64 xo, .int .i64 xa] by rw [hw]; exact Lies.new _ _ _)
            have HB3 := hid (then_w HB2.out hb3)
            have HO3 := hid (own_later HO2.out hb3)
            rw [← hw]
            clear hw hb3
            have k0 := HK.out.cell 0
            have k1 := HK.out.cell 1
            simp only [List.getElem?_toArray, List.getElem?_cons_zero, List.getElem?_cons_succ] at k0 k1
            obtain ⟨v2, w2, hr, ho2, hb4⟩ := own_app11 (w0 := w) (own_later HO3.out (below_alloc w52 (.cells #[.int .i64 xo, .int .i64 xa] 34))) ⟨xo, xa⟩ w52.heap.size (Lies.new w52 34 #[.int .i64 xo, .int .i64 xa]) (by omega) (then_w HB3.out (below_alloc w52 (.cells #[.int .i64 xo, .int .i64 xa] 34)))
            have HR := hid hr
            have HO4 := hid ho2
            have HB4 := hid hb4
            clear hr ho2 hb4
            go_wp2_with (first | (refine wpList_append_run11 rfl _ _ 22 rfl v2 w2 HR.out ?_) | fail)
            go_roundw
            case rel =>
              refine ⟨j + 1, j + 1, l ++ [⟨xo, xa⟩], by omega, by omega, by go_num, by go_num, by rw [List.length_append]; show _ + 1 ≤ _; omega, ?_, HO4.out, HB4.out⟩
              show goP11 _ ((b.take (j + 1)).drop (j + 1)) _ = _
              rw [List.drop_eq_nil_of_le (by rw [List.length_take]; omega)]
              exact HP.out
            case measure => simp only [intOf]; omega
      · have hyN : ¬ y = 10 := fun e => h10 (UInt8.toNat_inj.1 (by show x.toNat = 10; omega))
        have hyB : (y == 10) = false := beq_eq_false_iff_ne.2 hyN
        have hyC : (y != 10) = true := bne_iff_ne.2 hyN
        have HN : Hid (goP11 l ((b.take (j + 1)).drop at_) (b.drop (j + 1)) = Pa11 b) := by
          show _ = _
          rw [← HG.out, HD.out, HTD.out]
          show _ = goP11 l _ (x :: _)
          rw [goP11, if_neg h10]
        clear h10 hx hy
        go_wp2_with fail
        go_roundw
        case rel => exact ⟨j + 1, at_, l, by omega, by omega, by go_num, rfl, hl32, HN, HO.out, HB.out⟩
        case measure => simp only [intOf]; omega
    · obtain rfl : j = b.length := by omega
      have hjI : ¬ (b.length : Int) < (b.length : Int) := by omega
      have HE : Hid ((if b.drop at_ = [] then (l, (0 : Int)) else ([], 111)) = Pa11 b) := by
        show _ = _
        have := HG.out
        rw [List.take_length, List.drop_length] at this
        exact this
      by_cases ha : at_ < b.length
      · have haI : (at_ : Int) < (b.length : Int) := by omega
        have HP : Hid (Pa11 b = ([], 111)) := by
          show _ = _
          rw [← HE.out, if_neg (fun z => by have := congrArg List.length z; rw [List.length_drop] at this; simp at this; omega)]
        go_wp2_with fail
        go_ret2
        exact ⟨none, 0, by rw [HP.out]; rfl, by rw [HP.out]; exact fun h => absurd h (by decide), HB.out⟩
      · have haI : ¬ (at_ : Int) < (b.length : Int) := by omega
        have HP : Hid (Pa11 b = (l, 0)) := by
          show _ = _
          rw [← HE.out, if_pos (List.drop_eq_nil_of_le (by omega))]
        go_wp2_with fail
        go_ret2
        exact ⟨A, c, by rw [HP.out]; rfl, by rw [HP.out]; exact HINS.out, HB.out⟩
end Go.Proofs.YtobelbaeaamkkaaDoor
