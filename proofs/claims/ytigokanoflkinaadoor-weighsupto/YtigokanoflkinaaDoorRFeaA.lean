/- portionref Feasible: what it leans on. -/
import Derived.Test.YtigokanoflkinaaDoorRFrac
import Derived.Test.YtigokanoflkinaaDoorWFeas
namespace Go.Proofs.YtigokanoflkinaaDoor
set_option linter.unusedSimpArgs false
set_option linter.unusedVariables false
open Go.RowKit Por

theorem pow_four : ∀ k n, n ≤ 4 * k → (10 : Nat) ^ n ≤ 10000 ^ k := by
  intro k n h
  have h3 : (10 : Nat) ^ n ≤ 10 ^ (4 * k) := Nat.pow_le_pow_right (by decide) h
  rw [Nat.pow_mul] at h3
  exact h3
theorem limbs_dv75 {l : List UInt8} (h : wholeB l = true) (hl : l.length ≤ 300) : (limbs (dv l)).length ≤ 75 :=
  len_limbs_le (Nat.lt_of_lt_of_le (dv_lt l (whole_all h)) (pow_four 75 l.length (by omega)))
theorem parseU_75 {neg : Bool} {t : List UInt8} {q : Rat} (h : parseU neg t = some q) (ht : t.length ≤ 300) : Sm q 75 := by
  unfold parseU at h
  cases hw : wholeB (t.take (slashAt t)) with
  | false => rw [hw, if_neg (by simp)] at h; cases h
  | true =>
    rw [hw, if_pos rfl] at h
    have hu := limbs_dv75 hw (Nat.le_trans (List.length_take_le' _ _) ht)
    have hul : (t.take (slashAt t)).length ≤ t.length := List.length_take_le' _ _
    cases hz : zeroB neg (dv (t.take (slashAt t))) with
    | true => rw [hz, if_pos rfl] at h; cases h
    | false =>
      rw [hz, if_neg (by simp)] at h
      by_cases hk : slashAt t = t.length
      · rw [if_pos hk] at h
        cases h
        obtain ⟨e1, e2, _⟩ := low_canon neg (dv (t.take (slashAt t))) 1 (by omega) (Nat.gcd_one_right _) hz
        refine ⟨by rw [e1]; omega, by rw [e2, limbs_one]; decide⟩
      · rw [if_neg hk] at h
        cases hv : wholeB (t.drop (slashAt t + 1)) with
        | false => rw [hv, if_neg (by simp)] at h; cases h
        | true =>
          rw [hv, if_pos rfl] at h
          have hd := limbs_dv75 hv (by rw [List.length_drop]; omega)
          cases hl : lowB (dv (t.take (slashAt t))) (dv (t.drop (slashAt t + 1))) with
          | false => rw [hl, if_neg (by simp)] at h; cases h
          | true =>
            rw [hl, if_pos rfl] at h
            cases h
            have hg : 1 < dv (t.drop (slashAt t + 1)) ∧ Nat.gcd (dv (t.take (slashAt t))) (dv (t.drop (slashAt t + 1))) = 1 := by unfold lowB at hl; simpa using hl
            obtain ⟨e1, e2, _⟩ := low_canon neg _ _ (by omega) hg.2 hz
            refine ⟨by rw [e1]; omega, by rw [e2]; omega⟩

theorem readL_75 {l : List UInt8} {q : Rat} (h : readL l = some q) : Sm q 75 := by
  unfold readL at h
  by_cases hl : l.length ≤ 300
  · rw [if_pos hl] at h
    unfold parseL at h
    by_cases hh : l.head? = some 45
    · rw [if_pos hh] at h; exact parseU_75 h (by rw [List.length_tail]; omega)
    · rw [if_neg hh] at h; exact parseU_75 h hl
  · rw [if_neg hl] at h; cases h

theorem svs_75 {ss : List ByteArray} (h : ss.all okS = true) {i : Nat} (hi : i < ss.length) : Sm (svs ss i) 75 := by
  rw [List.all_eq_true] at h
  have h1 := h _ (List.getElem_mem hi)
  rw [tx_get ss hi] at h1
  unfold okS at h1
  unfold svs sv
  cases hr : readL (tx ss i).data.toList with
  | none => rw [hr] at h1; cases h1
  | some q => exact readL_75 hr
theorem pq_whole {w : World} {wo vo : Option Addr} {wn wc vn vc N : Nat} (h1 : Row w wo wn wc (limbs N)) (h2 : Row w vo vn vc (limbs 1)) (hN : N ≤ 10000) : PQv w (.agg #[.bool false, .slice wo wn wc, .slice vo vn vc]) ((N : Int) : Rat) 2 := by
  have e := len_small hN
  have l1 := h1.len
  have l2 := h2.len
  have e1 : (limbs 1).length = 1 := by rw [limbs_one]; rfl
  refine ⟨false, wo, wn, wc, vo, vn, vc, N, 1, rfl, h1, h2, by decide, ?_, by omega, by omega⟩
  rw [rat_of]
  have : sg false N = (N : Int) := rfl
  rw [this]
  have e2 : (((1 : Nat) : Int) : Rat) = 1 := rfl
  rw [e2]
  grind
theorem pq_zero {w : World} {vo : Option Addr} {vn vc : Nat} (h2 : Row w vo vn vc (limbs 1)) : PQv w (.agg #[.bool false, .slice none 0 0, .slice vo vn vc]) 0 2 := by
  have h1 : Row w none 0 0 (limbs 0) := by rw [limbs_zero]; exact Row.nil w
  exact pq_whole (N := 0) h1 h2 (by decide)
theorem within_neg {us : List Usr} {f : Nat → Rat} {i n : Nat} (hi : i < n) (h : f i < 0) : withinB us f n = false := by
  unfold withinB; rw [negAny_mono hi h]; rfl
theorem within_cap {us : List Usr} {f : Nat → Rat} {i n : Nat} (hi : i < n) (h : (((ug us i).cap : Int) : Rat) < f i) : withinB us f n = false := by
  unfold withinB; rw [capAll_false hi h]; simp
theorem within_step {us : List Usr} {f : Nat → Rat} {i : Nat} (h : withinB us f i = true) (h1 : ¬ f i < 0) (h2 : f i ≤ (((ug us i).cap : Int) : Rat)) : withinB us f (i + 1) = true := by
  unfold withinB at *
  simp only [negAny, capAll, Bool.and_eq_true, Bool.not_eq_true', Bool.or_eq_false_iff, decide_eq_true_eq, decide_eq_false_iff_not] at *
  exact ⟨⟨h.1, h1⟩, h.2, h2⟩
theorem borne_step {pool : List Int} {us : List Usr} {f : Nat → Rat} {n r : Nat} (h : borneB pool us f n r = true) (h2 : totF us f r n ≤ ((lm pool r : Int) : Rat)) : borneB pool us f n (r + 1) = true := by
  simp only [borneB]; rw [h, decide_eq_true h2]; rfl
end Go.Proofs.YtigokanoflkinaaDoor
