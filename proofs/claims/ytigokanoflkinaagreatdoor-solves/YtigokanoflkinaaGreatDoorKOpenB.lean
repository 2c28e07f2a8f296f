/- What is handed in: a list of numbers, with the numbers' range. -/
import Derived.Test.YtigokanoflkinaaGreatDoorKOpen
import Derived.OpenShut
namespace Go.Proofs.YtigokanoflkinaaGreatDoor
set_option linter.unusedSimpArgs false
set_option linter.unusedVariables false
open Go.RowKit Por Go.ChangeShapes Go.WideShapes

theorem lm_take {zs : List Int} {n i : Nat} (h : i < n) : lm (zs.take n) i = zs[i]?.getD 0 := by
  unfold lm; rw [List.getD_eq_getElem?_getD, List.getElem?_take, if_pos h]
end Go.Proofs.YtigokanoflkinaaGreatDoor
