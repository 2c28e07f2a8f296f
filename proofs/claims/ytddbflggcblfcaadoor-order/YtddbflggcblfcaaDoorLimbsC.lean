/- Plain facts on division on paper, in limbs of the base 10000. -/
import Derived.Test.YtddbflggcblfcaaDoorLimbsB
namespace Go.Proofs.YtddbflggcblfcaaDoor.Por
set_option linter.unusedSimpArgs false
set_option linter.unusedVariables false

def ltB (a b : Int) : Bool := decide (a < b)

theorem lm_take (xs : List Int) (n j : Nat) (h : j < n) : lm (xs.take n) j = lm xs j := by
  unfold lm; simp [List.getD_eq_getElem?_getD, List.getElem?_take, h]
theorem lm_drop (xs : List Int) (o j : Nat) : lm (xs.drop o) j = lm xs (o + j) := by
  unfold lm; simp [List.getD_eq_getElem?_getD, List.getElem?_drop]
theorem lim_drop {xs : List Int} (h : Lim xs) (n : Nat) : Lim (xs.drop n) := fun x hx => h x (List.mem_of_mem_drop hx)
theorem val_top (R : List Int) (n : Nat) (hn : R.length = n + 1) : val R = val (R.take n) + 10000 ^ n * lm R n := by
  rw [← val_take_succ, List.take_of_length_le (by omega)]

theorem below_pos (R B : List Int) (n : Nat) (hR : Lim R) (hB : Lim B) (hn : R.length = n + 1) (hm : B.length = n) (h : 0 < lm R n) : ltB (val R) (val B) = false := by
  have h1 := val_top R n hn
  have h2 := val_lt hB
  rw [hm] at h2
  have h3 := val_nonneg (lim_take hR n)
  have h4 : (10000 : Int) ^ n * 1 ≤ 10000 ^ n * lm R n := Int.mul_le_mul_of_nonneg_left (by omega) (Int.le_of_lt (Int.pow_pos (by omega)))
  unfold ltB; simp; omega

theorem below_eq (R B : List Int) (n : Nat) (hn : R.length = n + 1) (hm : B.length = n) (h : lm R n = 0) (he : ∀ j, j < n → lm R j = lm B j) : ltB (val R) (val B) = false := by
  have h1 := val_top R n hn
  have h2 : R.take n = B := ext_getD n (by simp; omega) hm (fun i hi => (lm_take R n i hi).trans (he i hi))
  rw [h, h2] at h1
  unfold ltB; simp; omega

theorem below_ne (R B : List Int) (n q : Nat) (hR : Lim R) (hB : Lim B) (hn : R.length = n + 1) (hm : B.length = n) (h : lm R n = 0) (hq : q < n) (he : ∀ j, q < j → j < n → lm R j = lm B j) (hne : lm R q ≠ lm B q) :
    ltB (val R) (val B) = decide (lm R q < lm B q) := by
  have h1 := val_top R n hn
  rw [h, Int.mul_zero, Int.add_zero] at h1
  unfold ltB
  rw [h1, Bool.eq_iff_iff, decide_eq_true_iff, decide_eq_true_iff]
  rcases Int.lt_trichotomy (lm R q) (lm B q) with hlt | heq | hgt
  · have := val_cmp_lt (R.take n) B (lim_take hR n) hB n (by simp; omega) hm q hq (fun i a b => (lm_take R n i b).trans (he i a b)) (by rw [lm_take R n q hq]; exact hlt)
    omega
  · exact absurd heq hne
  · have := val_cmp_lt B (R.take n) hB (lim_take hR n) n hm (by simp; omega) q hq (fun i a b => ((lm_take R n i b).trans (he i a b)).symm) (by rw [lm_take R n q hq]; exact hgt)
    omega

theorem subt_step (D R B : List Int) (i : Nat) (t c left c2 : Int) (hk : i < D.length) (hD : lm D i = lm R i) (hl : left - 10000 * c2 = lm D i - (c + lm B i * t))
    (h : val (D.take i) - 10000 ^ i * c = val (R.take i) - t * val (B.take i)) :
    val ((D.set i left).take (i + 1)) - 10000 ^ (i + 1) * c2 = val (R.take (i + 1)) - t * val (B.take (i + 1)) := by
  rw [val_set_take D i _ hk, val_take_succ, val_take_succ, Int.pow_succ]
  rw [hD] at hl
  generalize (10000 : Int) ^ i = P at *
  grind

/-- the end of taking off: the top limb -/
theorem subt_end (D R B : List Int) (n : Nat) (t c : Int) (hD : Lim D) (hR : Lim R) (hc : 0 ≤ c) (hk : n < D.length) (hl : lm D n = lm R n) (hm : B.length = n) (hR2 : R.length = n + 1)
    (h : val (D.take n) - 10000 ^ n * c = val (R.take n) - t * val (B.take n)) (hle : t * val B ≤ val R) :
    0 ≤ lm D n - c ∧ lm D n - c < 10000 ∧ val ((D.set n (lm D n - c)).take (n + 1)) = val R - t * val B := by
  have h1 := val_top R n hR2
  have e : B.take n = B := List.take_of_length_le (by omega)
  rw [e] at h
  have h2 := val_set_take D n (lm D n - c) hk
  have h3 : val ((D.set n (lm D n - c)).take (n + 1)) = val R - t * val B := by
    rw [h2, hl]
    generalize (10000 : Int) ^ n = P at *
    grind
  have hb := lim_getD hD n
  refine ⟨?_, by omega, h3⟩
  have h4 := val_lt (lim_take hD n)
  rw [List.length_take, Nat.min_eq_left (by omega)] at h4
  rw [h2] at h3
  have hp : (0 : Int) < 10000 ^ n := Int.pow_pos (by omega)
  by_cases hneg : 0 ≤ lm D n - c
  · exact hneg
  · exfalso
    have h5 : (10000 : Int) ^ n * (lm D n - c) ≤ 10000 ^ n * (-1) := Int.mul_le_mul_of_nonneg_left (by omega) (by omega)
    omega

theorem subt_carry (x t c : Int) (hx : 0 ≤ x ∧ x < 10000) (ht : 0 ≤ t ∧ t < 10000) (hc : 0 ≤ c ∧ c ≤ 10000) :
    0 ≤ x * t ∧ x * t ≤ 99980001 ∧ 0 ≤ c + x * t ∧ c + x * t ≤ 99990001 := by
  have h1 : 0 ≤ x * t := Int.mul_nonneg hx.1 ht.1
  have h2 : x * t ≤ 9999 * 9999 := Int.mul_le_mul (by omega) (by omega) ht.1 (by omega)
  omega

/-- a guess from the uppermost limbs is never too great -/
theorem guess_le (R B : List Int) (n : Nat) (hR : Lim R) (hB : Lim B) (hn : R.length = n + 2) (hm : B.length = n + 1) (g : Int) (hg0 : 0 ≤ g) (hg : g * (lm B n + 1) ≤ lm R (n + 1) * 10000 + lm R n) :
    g * val B ≤ val R := by
  have h1 := val_top R (n + 1) hn
  have h2 := val_take_succ R n
  have h3 := val_top B n hm
  have h4 := val_nonneg (lim_take hR n)
  have h5 := val_lt (lim_take hB n)
  rw [List.length_take, Nat.min_eq_left (by omega)] at h5
  have hp : (0 : Int) < 10000 ^ n := Int.pow_pos (by omega)
  rw [h2, Int.pow_succ] at h1
  generalize (10000 : Int) ^ n = P at *
  generalize val (R.take n) = u at *
  generalize val (B.take n) = v at *
  generalize lm R (n + 1) = r1 at *
  generalize lm R n = r0 at *
  generalize lm B n = b at *
  have k1 : g * val B ≤ g * (P * (b + 1)) := Int.mul_le_mul_of_nonneg_left (by rw [h3]; grind) hg0
  have k2 : P * (g * (b + 1)) ≤ P * (r1 * 10000 + r0) := Int.mul_le_mul_of_nonneg_left hg (by omega)
  have k3 : g * (P * (b + 1)) = P * (g * (b + 1)) := by grind
  have k4 : val R = u + P * (r1 * 10000 + r0) := by rw [h1]; grind
  omega

theorem guess_lt (g V W : Int) (hV : 0 < V) (h1 : g * V ≤ W) (h2 : W < 10000 * V) : g < 10000 := by
  by_cases h : g < 10000
  · exact h
  · exfalso
    have : 10000 * V ≤ g * V := Int.mul_le_mul_of_nonneg_right (by omega) (by omega)
    omega

theorem val_pos {B : List Int} (hB : Lim B) (n : Nat) (hm : B.length = n + 1) (h : 1 ≤ lm B n) : 0 < val B := by
  have h3 := val_top B n hm
  have h4 := val_nonneg (lim_take hB n)
  have hp : (0 : Int) < 10000 ^ n := Int.pow_pos (by omega)
  have : (10000 : Int) ^ n * 1 ≤ 10000 ^ n * lm B n := Int.mul_le_mul_of_nonneg_left h (by omega)
  omega

/-- a window of a list that alone has turned -/
structure Win (Z Z' : List Int) (o n : Nat) (d : Int) : Prop where
  len : Z'.length = Z.length
  pre : Z'.take o = Z.take o
  post : Z'.drop (o + n) = Z.drop (o + n)
  win : val ((Z'.drop o).take n) = val ((Z.drop o).take n) - d

theorem Win.refl (Z : List Int) (o n : Nat) : Win Z Z o n 0 := ⟨rfl, rfl, rfl, by omega⟩
theorem Win.trans {Z Z' Z'' : List Int} {o n : Nat} {d d' : Int} (h : Win Z Z' o n d) (k : Win Z' Z'' o n d') : Win Z Z'' o n (d + d') :=
  ⟨k.len.trans h.len, k.pre.trans h.pre, k.post.trans h.post, by rw [k.win, h.win]; omega⟩

theorem val_split (Z : List Int) (n : Nat) (h : n ≤ Z.length) : val Z = val (Z.take n) + 10000 ^ n * val (Z.drop n) := by
  have := val_append (Z.take n) (Z.drop n)
  rwa [List.take_append_drop, List.length_take, Nat.min_eq_left h] at this

theorem Win.drop {Z Z' : List Int} {o n : Nat} {d : Int} (h : Win Z Z' o n d) (hn : o + n ≤ Z.length) : val (Z'.drop o) = val (Z.drop o) - d := by
  have e1 := val_split (Z'.drop o) n (by rw [List.length_drop, h.len]; omega)
  have e2 := val_split (Z.drop o) n (by rw [List.length_drop]; omega)
  rw [List.drop_drop, h.post, h.win] at e1
  rw [List.drop_drop] at e2
  omega

theorem Win.all {Z Z' : List Int} {o n : Nat} {d : Int} (h : Win Z Z' o n d) (hn : o + n ≤ Z.length) : val Z' = val Z - 10000 ^ o * d := by
  have e1 := val_split Z' o (by rw [h.len]; omega)
  have e2 := val_split Z o (by omega)
  rw [h.pre, h.drop hn] at e1
  rw [e1, e2]; grind

/-- the limbs behind a small value are noughts -/
theorem val_window (Z : List Int) (i n : Nat) (V : Int) (hZ : Lim Z) (hV : V ≤ 10000 ^ n) (hi : i + n + 1 ≤ Z.length) (h : val (Z.drop (i + 1)) < V) :
    val ((Z.drop i).take (n + 1)) = val (Z.drop i) ∧ val (Z.drop i) < 10000 * V ∧ val ((Z.drop i).take (n + 1)) = lm Z i + 10000 * val (Z.drop (i + 1)) := by
  have e1 : val (Z.drop i) = lm Z i + 10000 * val (Z.drop (i + 1)) := by
    rw [List.drop_eq_getElem_cons (show i < Z.length by omega), val]
    unfold lm; simp [show i < Z.length by omega]
  have hb := lim_getD hZ i
  have e2 := val_split (Z.drop i) (n + 1) (by rw [List.length_drop]; omega)
  have n1 := val_nonneg (lim_take (lim_drop hZ i) (n + 1))
  have n2 := val_nonneg (lim_drop (lim_drop hZ i) (n + 1))
  have hp : (0 : Int) < 10000 ^ n := Int.pow_pos (by omega)
  have h3 : val ((Z.drop i).drop (n + 1)) = 0 := by
    by_cases e : val ((Z.drop i).drop (n + 1)) = 0
    · exact e
    · exfalso
      have : (10000 : Int) ^ (n + 1) * 1 ≤ 10000 ^ (n + 1) * val ((Z.drop i).drop (n + 1)) := Int.mul_le_mul_of_nonneg_left (by omega) (Int.le_of_lt (Int.pow_pos (by omega)))
      rw [Int.pow_succ] at this e2
      omega
  rw [h3, Int.mul_zero, Int.add_zero] at e2
  exact ⟨e2.symm, by omega, by omega⟩

theorem divmod_of (a b q r : Nat) (h : a = q * b + r) (hr : r < b) : q = a / b ∧ r = a % b := by
  have hb : 0 < b := by omega
  subst h
  constructor
  · rw [Nat.mul_comm, Nat.mul_add_div hb, Nat.div_eq_of_lt hr]; omega
  · rw [Nat.mul_comm, Nat.mul_add_mod, Nat.mod_eq_of_lt hr]
end Go.Proofs.YtddbflggcblfcaaDoor.Por
