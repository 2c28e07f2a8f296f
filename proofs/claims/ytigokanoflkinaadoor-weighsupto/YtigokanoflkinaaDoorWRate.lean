/- fill.isZero, wholes, zeros, rateOf. (Laid by mksolve.py.) -/
import Derived.Test.YtigokanoflkinaaDoorFFill
namespace Go.Proofs.YtigokanoflkinaaDoor
set_option linter.unusedSimpArgs false
set_option linter.unusedVariables false
open Go.RowKit Por
theorem enL_sm {f : Nat → Rat} {dem : List Int} {L n : Nat} (hs : ∀ i, i < n → Sm (f i) L) (hd : ∀ i, amtB (lm dem i) = true) : ∀ k, k ≤ n → ∀ x, x ∈ enL f dem k → Sm x (L + 2) := by
  intro k
  induction k with
  | zero => intro _ x hx; cases hx
  | succ k ih =>
    intro hk x hx
    simp only [enL] at hx
    split at hx
    · exact ih (by omega) x hx
    · rename_i hz
      rcases List.mem_append.1 hx with h | h
      · exact ih (by omega) x h
      · rw [List.mem_singleton] at h
        subst h
        exact (hs k (by omega)).div (Sm.amt (hd k)) (int_rat_zero hz)

end Go.Proofs.YtigokanoflkinaaDoor
