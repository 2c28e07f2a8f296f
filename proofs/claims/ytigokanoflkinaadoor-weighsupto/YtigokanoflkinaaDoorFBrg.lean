/- The program's filling and the maths of fair fillings. -/
import Derived.Test.YtigokanoflkinaaDoorWStop
import Derived.Deep.RegionWith
import Derived.Test.YtigokanoflkinaaDoorWShares
import Derived.Test.YtigokanoflkinaaDoorWFeas
namespace Go.Proofs.YtigokanoflkinaaDoor
set_option linter.unusedSimpArgs false
set_option linter.unusedVariables false
open Go.RowKit Por
theorem mem_enL {f : Nat → Rat} {dem : List Int} {v : Rat} : ∀ k, v ∈ enL f dem k ↔ ∃ r, r < k ∧ lm dem r ≠ 0 ∧ v = f r / ((lm dem r : Int) : Rat) := by
  intro k
  induction k with
  | zero => simp [enL]
  | succ k ih =>
    simp only [enL]
    split
    · rename_i e
      rw [ih]
      constructor
      · rintro ⟨i, h1, h2⟩; exact ⟨i, by omega, h2⟩
      · rintro ⟨i, h1, h2, h3⟩
        by_cases e2 : i = k
        · subst e2; exact absurd e h2
        · exact ⟨i, by omega, h2, h3⟩
    · rename_i e
      rw [List.mem_append, ih, List.mem_singleton]
      constructor
      · rintro (⟨i, h1, h2⟩ | h)
        · exact ⟨i, by omega, h2⟩
        · exact ⟨k, by omega, e, h⟩
      · rintro ⟨i, h1, h2, h3⟩
        by_cases e2 : i = k
        · subst e2; exact Or.inr h3
        · exact Or.inl ⟨i, by omega, h2, h3⟩

end Go.Proofs.YtigokanoflkinaaDoor
