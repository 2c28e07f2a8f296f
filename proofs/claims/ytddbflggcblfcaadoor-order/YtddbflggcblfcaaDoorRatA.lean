/- Plain facts on fractions in lowest terms. -/
import Derived.Test.YtddbflggcblfcaaDoorTextA
namespace Go.Proofs.YtddbflggcblfcaaDoor.Por
set_option linter.unusedSimpArgs false
set_option linter.unusedVariables false
open Go.Lib (decDigits)

def sg (m : Bool) (x : Nat) : Int := if m then -(x : Int) else x
def negB (q : Rat) : Bool := decide (q.num < 0)

theorem sg_abs (m : Bool) (x : Nat) : (sg m x).natAbs = x := by cases m <;> simp [sg]

theorem low_eq (m : Bool) (x y : Nat) (hy : y ≠ 0) : (mkRat (sg m x) y).num.natAbs = x / Nat.gcd x y ∧ (mkRat (sg m x) y).den = y / Nat.gcd x y ∧ negB (mkRat (sg m x) y) = (m && !(x / Nat.gcd x y == 0)) := by
  have hd : Nat.gcd x y ∣ x := Nat.gcd_dvd_left x y
  have hg : 0 < Nat.gcd x y := Nat.gcd_pos_of_pos_right x (by omega)
  have e : mkRat (sg m x) y = Rat.normalize (sg m x) y hy := by unfold mkRat; rw [dif_neg hy]
  have hn : (mkRat (sg m x) y).num = sg m (x / Nat.gcd x y) := by
    rw [e, Rat.normalize_eq]
    simp only [sg_abs]
    obtain ⟨k, hk⟩ := hd
    rw [Nat.div_eq_of_eq_mul_right hg hk]
    cases m
    · simp only [sg, Bool.false_eq_true, if_false]
      rw [← Int.natCast_ediv, Nat.div_eq_of_eq_mul_right hg hk]
    · simp only [sg, if_true]
      have : ((x : Int)) = (k : Int) * (Nat.gcd x y : Int) := by
        have := congrArg (Int.ofNat) hk
        simp only [Int.ofNat_eq_natCast] at this
        rw [Nat.mul_comm, Int.natCast_mul] at this
        exact this
      rw [this, Int.neg_mul_eq_neg_mul]
      exact Int.mul_ediv_cancel _ (by omega)
  refine ⟨by rw [hn, sg_abs], ?_, ?_⟩
  · rw [e, Rat.normalize_eq]; simp only [sg_abs]
  · unfold negB
    rw [hn]
    generalize x / Nat.gcd x y = t
    cases m
    · simp [sg]
    · simp only [sg, if_true, Bool.true_and]
      rw [Bool.eq_iff_iff]; simp; omega

theorem num_sg (q : Rat) : q.num = sg (negB q) q.num.natAbs := by
  unfold sg negB
  by_cases h : q.num < 0 <;> simp [h] <;> omega

theorem rat_mk (q : Rat) : mkRat (sg (negB q) q.num.natAbs) q.den = q := by rw [← num_sg]; exact Rat.mkRat_self q

/-- sums, by signs -/
theorem add_sg (x y : Rat) : x + y = mkRat (sg (negB x) (x.num.natAbs * y.den) + sg (negB y) (y.num.natAbs * x.den)) (x.den * y.den) := by
  have h := Rat.mkRat_add_mkRat x.num y.num x.den_nz y.den_nz
  rw [Rat.mkRat_self, Rat.mkRat_self] at h
  rw [h]
  congr 1
  have e : ∀ (m : Bool) (a b : Nat), sg m (a * b) = sg m a * b := by intro m a b; cases m <;> simp [sg, Int.neg_mul]
  rw [e, e, ← num_sg, ← num_sg]

theorem sg_same (m : Bool) (a b : Nat) : sg m a + sg m b = sg m (a + b) := by cases m <;> simp [sg]; omega
theorem sg_less (m k : Bool) (a b : Nat) (h : m ≠ k) (hab : b ≤ a) : sg m a + sg k b = sg m (a - b) := by
  cases m <;> cases k <;> simp_all [sg] <;> omega
theorem sg_more (m k : Bool) (a b : Nat) (h : m ≠ k) (hab : a ≤ b) : sg m a + sg k b = sg k (b - a) := by
  cases m <;> cases k <;> simp_all [sg] <;> omega

theorem mul_sg (x y : Rat) : x * y = mkRat (sg (negB x != negB y) (x.num.natAbs * y.num.natAbs)) (x.den * y.den) := by
  have h := Rat.mkRat_mul_mkRat x.num y.num x.den y.den
  rw [Rat.mkRat_self, Rat.mkRat_self] at h
  rw [h]
  congr 1
  have e : ∀ (m k : Bool) (a b : Nat), sg (m != k) (a * b) = sg m a * sg k b := by
    intro m k a b; cases m <;> cases k <;> simp [sg, Int.neg_mul, Int.mul_neg]
  rw [e, ← num_sg, ← num_sg]

theorem den_pos (q : Rat) : 1 ≤ q.den := Nat.pos_of_ne_zero q.den_nz
theorem num_zero (q : Rat) : q.num.natAbs = 0 ↔ q = 0 := by
  rw [Int.natAbs_eq_zero]; exact Rat.num_eq_zero

theorem inv_sg (y : Rat) (hy : y ≠ 0) : y⁻¹ = mkRat (sg (negB y) y.den) y.num.natAbs := by
  have h0 : y.num.natAbs ≠ 0 := fun h => hy ((num_zero y).1 h)
  rw [Rat.inv_def]
  unfold sg negB
  by_cases h : y.num < 0
  · simp only [h, decide_true, if_true]
    have e : y.num = -((y.num.natAbs : Nat) : Int) := by omega
    rw [e, Rat.divInt_neg', Int.natAbs_neg, Int.natAbs_natCast]
    exact Rat.divInt_ofNat _ _
  · simp only [h, decide_false, Bool.false_eq_true, if_false]
    have e : y.num = ((y.num.natAbs : Nat) : Int) := by omega
    rw [e, Int.natAbs_natCast]
    exact Rat.divInt_ofNat _ _

theorem div_sg (x y : Rat) (hy : y ≠ 0) : x / y = mkRat (sg (negB x != negB y) (x.num.natAbs * y.den)) (x.den * y.num.natAbs) := by
  rw [Rat.div_def, inv_sg y hy]
  have h := Rat.mkRat_mul_mkRat x.num (sg (negB y) y.den) x.den y.num.natAbs
  rw [Rat.mkRat_self] at h
  rw [h]
  congr 1
  have e : ∀ (m k : Bool) (a b : Nat), sg (m != k) (a * b) = sg m a * sg k b := by
    intro m k a b; cases m <;> cases k <;> simp [sg, Int.neg_mul, Int.mul_neg]
  rw [e, ← num_sg]

/-- the text of a fraction -/
def txt (q : Rat) : List UInt8 := (if negB q then [45] else []) ++ decDigits q.num.natAbs ++ (if 1 < q.den then 47 :: decDigits q.den else [])
end Go.Proofs.YtddbflggcblfcaaDoor.Por
