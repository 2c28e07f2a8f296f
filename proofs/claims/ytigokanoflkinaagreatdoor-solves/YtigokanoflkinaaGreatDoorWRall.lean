/- fill.readAll, least. (Laid by mkfill.py.) -/
import Derived.Test.YtigokanoflkinaaGreatDoorFVals
namespace Go.Proofs.YtigokanoflkinaaGreatDoor
set_option linter.unusedSimpArgs false
set_option linter.unusedVariables false
open Go.RowKit Por

/-- texts in memory -/
def strs (ss : List ByteArray) : List Value := ss.map Value.string
end Go.Proofs.YtigokanoflkinaaGreatDoor
