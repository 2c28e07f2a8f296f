/- ratio.Floor: the greatest whole number that is not above a fraction. (Laid by mkfloor.py.) -/
import Derived.Test.YtigokanoflkinaaGreatDoorWRat
import Derived.Test.YtigokanoflkinaaGreatDoorWEx
namespace Go.Proofs.YtigokanoflkinaaGreatDoor
set_option linter.unusedSimpArgs false
set_option linter.unusedVariables false
open Go.RowKit Por
theorem Row.set1 {w : World} {ao : Option Addr} {n cap : Nat} {xs : List Int} (h : Row w ao n cap xs) {b : Nat} {x0 : Value} {T : TypeId} (hx : Bx w b #[x0] T) (hT : T ≠ 3) (u : Value) : Row (w.setCell ⟨b, 0, none⟩ u) ao n cap xs := by
  exact h.other b 0 u hx hT

end Go.Proofs.YtigokanoflkinaaGreatDoor
