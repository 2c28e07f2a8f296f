/- The program's filling and the maths of fair fillings. -/
import Derived.Test.YtigokanoflkinaaGreatDoorWRise
import Derived.Test.YtigokanoflkinaaGreatDoorWStart
import Derived.Test.YtigokanoflkinaaGreatDoorWShares
import Derived.Test.YtigokanoflkinaaGreatDoorWFeas
namespace Go.Proofs.YtigokanoflkinaaGreatDoor
set_option linter.unusedSimpArgs false
set_option linter.unusedVariables false
open Go.RowKit Por

/-- the problem that a pool and users pose -/
def prb (pool : List Int) (us : List Usr) : Prob := ⟨us.length, pool.length, fun r => ((lm pool r : Int) : Rat), fun i r => dm us i r, fun i => (((ug us i).wt : Int) : Rat), fun i => (((ug us i).cap : Int) : Rat)⟩

theorem int_nonneg {n : Int} (h : 0 ≤ n) : (0 : Rat) ≤ (n : Rat) := Rat.intCast_nonneg.2 h
theorem int_le {a b : Int} : (a : Rat) ≤ (b : Rat) ↔ a ≤ b := Rat.intCast_le_intCast
theorem int_lt {a b : Int} : (a : Rat) < (b : Rat) ↔ a < b := Rat.intCast_lt_intCast
theorem int_pos {n : Int} : (0 : Rat) < (n : Rat) ↔ 0 < n := by
  have e : (0 : Rat) = ((0 : Int) : Rat) := rfl
  rw [e]; exact int_lt

theorem prb_ok {pool : List Int} {us : List Usr} (hg : Good us pool.length) (hpa : ∀ i, amtB (lm pool i) = true) : (prb pool us).Ok := by
  refine ⟨fun r hr => int_nonneg (amt_rng (hpa r)).1, fun i r hi hr => int_nonneg (amt_rng (hg.dem hi r)).1, fun i hi => int_pos.2 (by have := (hg.wt (i := i) hi).1; omega), fun i hi => int_nonneg (hg.cap (i := i) hi).1⟩

theorem mem_enL {f : Nat → Rat} {dem : List Int} {v : Rat} : ∀ k, v ∈ enL f dem k ↔ ∃ r, r < k ∧ lm dem r ≠ 0 ∧ v = f r / ((lm dem r : Int) : Rat) := by
  intro k
  induction k with
  | zero => simp [enL]
  | succ k ih =>
    simp only [enL]
    split
    · rename_i e
      rw [ih]
      constructor
      · rintro ⟨i, h1, h2⟩; exact ⟨i, by omega, h2⟩
      · rintro ⟨i, h1, h2, h3⟩
        by_cases e2 : i = k
        · subst e2; exact absurd e h2
        · exact ⟨i, by omega, h2, h3⟩
    · rename_i e
      rw [List.mem_append, ih, List.mem_singleton]
      constructor
      · rintro (⟨i, h1, h2⟩ | h)
        · exact ⟨i, by omega, h2⟩
        · exact ⟨k, by omega, e, h⟩
      · rintro ⟨i, h1, h2, h3⟩
        by_cases e2 : i = k
        · subst e2; exact Or.inr h3
        · exact Or.inl ⟨i, by omega, h2, h3⟩

theorem rateU_eq (pool : List Int) (us : List Usr) (kk i : Nat) : rateU pool us kk i = leastL (enL (wholeF pool) (ug us i).dem kk) * (((ug us i).wt : Int) : Rat) := by
  unfold rateU rateQ
  rw [leastF_rq]; rfl

/-- the dominant kind, and what it says -/
theorem rate_kind {pool : List Int} {us : List Usr} (hg : Good us pool.length) {i : Nat} (hi : i < us.length) :
    ∃ r, r < pool.length ∧ 0 < lm (ug us i).dem r ∧ rateU pool us pool.length i * dm us i r = (((ug us i).wt : Int) : Rat) * ((lm pool r : Int) : Rat) := by
  obtain ⟨r0, hr0, hd0⟩ := hg.some hi
  have hne : enL (wholeF pool) (ug us i).dem pool.length ≠ [] := List.length_pos_iff.1 (enL_pos hd0 _ hr0)
  obtain ⟨r, hr, hd, he⟩ := (mem_enL _).1 (leastL_mem hne)
  have hdm := amt_rng (hg.dem hi r)
  refine ⟨r, hr, by omega, ?_⟩
  rw [rateU_eq, he]
  have hz := int_rat_zero hd
  unfold wholeF
  grind

theorem prb_rate {pool : List Int} {us : List Usr} (hg : Good us pool.length) (hpa : ∀ i, amtB (lm pool i) = true) : Rate (prb pool us) (rateU pool us pool.length) := by
  have ho := prb_ok hg hpa
  refine ⟨fun i hi => ?_, fun i r hi hr hD => ?_, fun i hi => ?_⟩
  · obtain ⟨r, hr, hd, he⟩ := rate_kind hg hi
    have h1 : (0 : Rat) < dm us i r := int_pos.2 hd
    apply le_of_mul (c := dm us i r) _ h1
    rw [he, Rat.zero_mul]
    exact Rat.mul_nonneg (by have := ho.W0 i hi; exact Rat.le_of_lt this) (ho.P0 r hr)
  · have hd : 0 < lm (ug us i).dem r := int_pos.1 hD
    have hne : lm (ug us i).dem r ≠ 0 := by omega
    have h1 := leastL_le (l := enL (wholeF pool) (ug us i).dem pool.length) ((mem_enL _).2 ⟨r, hr, hne, rfl⟩)
    have h2 := mul_le_right h1 (show (0 : Rat) ≤ dm us i r from int_nonneg (by omega))
    have h3 : wholeF pool r / ((lm (ug us i).dem r : Int) : Rat) * dm us i r = wholeF pool r := div_mul (int_rat_zero hne)
    rw [h3] at h2
    have h4 := mul_le_left h2 (show (0 : Rat) ≤ (((ug us i).wt : Int) : Rat) from Rat.le_of_lt (ho.W0 i hi))
    show rateU pool us pool.length i * dm us i r ≤ (((ug us i).wt : Int) : Rat) * ((lm pool r : Int) : Rat)
    rw [rateU_eq]
    have e : leastL (enL (wholeF pool) (ug us i).dem pool.length) * (((ug us i).wt : Int) : Rat) * dm us i r = (((ug us i).wt : Int) : Rat) * (leastL (enL (wholeF pool) (ug us i).dem pool.length) * dm us i r) := by grind
    rw [e]; exact h4
  · obtain ⟨r, hr, hd, he⟩ := rate_kind hg hi
    exact ⟨r, hr, int_pos.2 hd, he⟩

theorem rate_le {pool : List Int} {us : List Usr} (hg : Good us pool.length) (hpa : ∀ i, amtB (lm pool i) = true) {i : Nat} (hi : i < us.length) : rateU pool us pool.length i ≤ ((1000000 : Nat) : Rat) := by
  obtain ⟨r, hr, hd, he⟩ := rate_kind hg hi
  have h0 := (prb_rate hg hpa).pos i hi
  have h1 : ((1 : Int) : Rat) ≤ dm us i r := int_le.2 (by omega)
  have h2 := mul_le_left h1 h0
  have hw := hg.wt hi
  have hp := amt_rng (hpa r)
  rw [he] at h2
  have h3 : (((ug us i).wt : Int) : Rat) * ((lm pool r : Int) : Rat) = (((ug us i).wt * lm pool r : Int) : Rat) := (Rat.intCast_mul _ _).symm
  rw [h3] at h2
  have h4 : (ug us i).wt * lm pool r ≤ 1000000 := by
    have h5 := Int.mul_le_mul hw.2 hp.2 hp.1 (by omega)
    omega
  have h6 := int_le.2 h4
  have e1 : ((1 : Int) : Rat) = 1 := rfl
  have e2 : ((1000000 : Int) : Rat) = ((1000000 : Nat) : Rat) := rfl
  rw [e1] at h2
  rw [e2] at h6
  grind

/-- a fraction with this denominator is small -/
theorem den_of {x : Rat} {Q M : Nat} (hQ : 0 < Q) (h : isInt (Q * x)) (h0 : 0 ≤ x) (h1 : x ≤ (M : Rat)) : x.num.natAbs ≤ Q * M ∧ x.den ≤ Q := by
  obtain ⟨z, hz⟩ := h
  have hQr : (Q : Rat) ≠ 0 := by have := cast_pos hQ; grind
  have e : x = mkRat z Q := by
    rw [Rat.mkRat_eq_div]
    have : x = (z : Rat) / ((Q : Nat) : Rat) := by rw [← hz]; grind
    exact this
  have hk := mk_le z Q (by omega)
  rw [← e] at hk
  refine ⟨Nat.le_trans hk.1 ?_, hk.2⟩
  have h2 : (0 : Rat) ≤ (z : Rat) := by rw [← hz]; exact Rat.mul_nonneg (cast_nonneg _) h0
  have h3 : (z : Rat) ≤ ((Q * M : Nat) : Rat) := by
    rw [← hz, cast_mul]; exact mul_le_left h1 (cast_nonneg _)
  have h4 : (0 : Int) ≤ z := Rat.intCast_nonneg.1 h2
  have h5 : z ≤ ((Q * M : Nat) : Int) := by
    have e3 : (((Q * M : Nat) : Int) : Rat) = ((Q * M : Nat) : Rat) := rfl
    exact int_le.1 (by rw [e3]; exact h3)
  omega

def prodN (e : Nat → Nat) : Nat → Nat
  | 0 => 1
  | n + 1 => prodN e n * e n
theorem prodN_pos {e : Nat → Nat} {n : Nat} (h : ∀ i, i < n → 0 < e i) : 0 < prodN e n := by
  induction n with
  | zero => exact Nat.one_pos
  | succ n ih => exact Nat.mul_pos (ih (fun i hi => h i (by omega))) (h n (by omega))
theorem prodN_le {e : Nat → Nat} {n B : Nat} (h : ∀ i, i < n → e i ≤ B) : prodN e n ≤ B ^ n := by
  induction n with
  | zero => exact Nat.le_refl _
  | succ n ih => rw [Nat.pow_succ]; exact Nat.mul_le_mul (ih (fun i hi => h i (by omega))) (h n (by omega))
theorem prodN_int {e : Nat → Nat} {g : Nat → Rat} {n : Nat} (h : ∀ i, i < n → isInt (e i * g i)) : ∀ i, i < n → isInt (prodN e n * g i) := by
  induction n with
  | zero => intro i hi; omega
  | succ n ih =>
    intro i hi
    have ec : ((prodN e (n + 1) : Nat) : Rat) = (prodN e n : Rat) * (e n : Rat) := cast_mul _ _
    rw [ec]
    by_cases h2 : i = n
    · subst h2
      have := (isInt.nat (prodN e i)).mul (h i (by omega))
      have e2 : (prodN e i : Rat) * (e i : Rat) * g i = prodN e i * (e i * g i) := by grind
      rw [e2]; exact this
    · have := (ih (fun i hi => h i (by omega)) i (by omega)).mul (isInt.nat (e n))
      have e2 : (prodN e n : Rat) * (e n : Rat) * g i = prodN e n * g i * e n := by grind
      rw [e2]; exact this

/-- one denominator for all rates -/
theorem rates_den {pool : List Int} {us : List Usr} (hg : Good us pool.length) (hn : us.length ≤ 6) : ∃ G : Nat, 0 < G ∧ G ≤ 10000 ^ 6 ∧ (∀ i, i < us.length → isInt (G * rateU pool us pool.length i)) ∧ ∀ i, i < us.length → ∃ q : Nat, 0 < q ∧ q ≤ 10000 ∧ isInt (q * rateU pool us pool.length i) := by
  classical
  have key : ∀ i, i < us.length → ∃ q : Nat, 0 < q ∧ q ≤ 10000 ∧ isInt (q * rateU pool us pool.length i) := fun i hi => by
    obtain ⟨r, hr, hd, he⟩ := rate_kind hg hi
    have hdm := amt_rng (hg.dem hi r)
    refine ⟨(lm (ug us i).dem r).toNat, by omega, by omega, ?_⟩
    have e1 : (((lm (ug us i).dem r).toNat : Nat) : Rat) = dm us i r := by
      have : (((lm (ug us i).dem r).toNat : Nat) : Int) = lm (ug us i).dem r := by omega
      show ((((lm (ug us i).dem r).toNat : Nat) : Int) : Rat) = _
      rw [this]
    rw [e1, Rat.mul_comm, he]
    exact isInt.mul ⟨_, rfl⟩ ⟨_, rfl⟩
  let e : Nat → Nat := fun i => if h : i < us.length then (key i h).choose else 1
  have he : ∀ i, i < us.length → 0 < e i ∧ e i ≤ 10000 ∧ isInt (e i * rateU pool us pool.length i) := fun i hi => by
    simp only [e]; rw [dif_pos hi]; exact (key i hi).choose_spec
  refine ⟨prodN e us.length, prodN_pos (fun i hi => (he i hi).1), ?_, prodN_int (fun i hi => (he i hi).2.2), key⟩
  exact Nat.le_trans (prodN_le (fun i hi => (he i hi).2.1)) (Nat.pow_le_pow_right (by decide) hn)

theorem sumW_le {pool : List Int} {us : List Usr} (hg : Good us pool.length) (hpa : ∀ i, amtB (lm pool i) = true) (hn : us.length ≤ 6) {r : Nat} (hr : r < pool.length) : sumN (fun i => (prb pool us).W i * (prb pool us).P r) (prb pool us).n ≤ ((6000000 : Nat) : Rat) := by
  have h1 : ∀ m, m ≤ us.length → sumN (fun i => (prb pool us).W i * (prb pool us).P r) m ≤ ((m * 1000000 : Nat) : Rat) := by
    intro m
    induction m with
    | zero => intro _; exact Rat.le_refl
    | succ m ih =>
      intro hm
      have h2 := ih (by omega)
      have hw := hg.wt (i := m) (by omega)
      have hp := amt_rng (hpa r)
      have h3 : (prb pool us).W m * (prb pool us).P r ≤ ((1000000 : Nat) : Rat) := by
        show (((ug us m).wt : Int) : Rat) * ((lm pool r : Int) : Rat) ≤ _
        rw [← Rat.intCast_mul]
        have h5 := Int.mul_le_mul hw.2 hp.2 hp.1 (by omega)
        exact int_le.2 (show (ug us m).wt * lm pool r ≤ 1000000 by omega)
      have e : (((m + 1) * 1000000 : Nat) : Rat) = ((m * 1000000 : Nat) : Rat) + ((1000000 : Nat) : Rat) := by
        have e0 : (m + 1) * 1000000 = m * 1000000 + 1000000 := by omega
        rw [e0, Rat.natCast_add]
      simp only [sumN]
      rw [e]
      grind
  refine Rat.le_trans (h1 us.length (Nat.le_refl _)) (cast_le.2 (by omega))
end Go.Proofs.YtigokanoflkinaaGreatDoor
