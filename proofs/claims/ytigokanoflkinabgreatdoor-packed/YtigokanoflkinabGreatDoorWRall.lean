/- fill.readAll, least. (Laid by mkfill.py.) -/
import Derived.Test.YtigokanoflkinabGreatDoorFBW
namespace Go.Proofs.YtigokanoflkinabGreatDoor
set_option linter.unusedSimpArgs false
set_option linter.unusedVariables false
open Go.RowKit Por
def strs (ss:List ByteArray):List Value:=ss.map Value.string
def sv (s:ByteArray):Rat:=(readL s.data.toList).getD 0
end Go.Proofs.YtigokanoflkinabGreatDoor
