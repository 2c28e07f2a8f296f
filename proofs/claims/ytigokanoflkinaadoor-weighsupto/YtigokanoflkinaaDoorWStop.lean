/- fill stop. (Laid by mksolve.py.) -/
import Derived.Test.YtigokanoflkinaaDoorWUsed
namespace Go.Proofs.YtigokanoflkinaaDoor
set_option linter.unusedSimpArgs false
set_option linter.unusedVariables false
open Go.RowKit Por

theorem BB.putA_other {w : World} {g n k : Nat} {f : Nat → Bool} (h : BB w g n k f) {b o : Nat} (u0 u1 u2 : Value) (hne : b ≠ g) : BB (wputA w b o u0 u1 u2) g n k f := by
  obtain ⟨arr, h1, h2, h3⟩ := h
  refine ⟨arr, ?_, h2, h3⟩
  unfold wputA
  rw [heap_setCell_other _ _ g _ (fun e => hne e.symm), heap_setCell_other _ _ g _ (fun e => hne e.symm), heap_setCell_other _ _ g _ (fun e => hne e.symm)]
  exact h1
end Go.Proofs.YtigokanoflkinaaDoor
