/- portionkeep.ask: Solve refuses or gives just as it must; nobody is due 0 but who must be. -/
import Derived.Test.YtigokanoflkinaaGreatDoorFSml
namespace Go.Proofs.YtigokanoflkinaaGreatDoor
set_option linter.unusedSimpArgs false
set_option linter.unusedVariables false
open Go.RowKit Por
theorem txt_zero : txt 0 = [48] := by
  have e : txt ((0 : Int) : Rat) = Go.Lib.itoa 0 := txt_int 0
  have e2 : Go.Lib.decDigits 0 = [48] := by unfold Go.Lib.decDigits; rfl
  have e3 : Go.Lib.itoa 0 = [48] := by unfold Go.Lib.itoa; rw [if_neg (by decide)]; exact e2
  exact e.trans e3
theorem ShB.cells {w : World} {g n k i : Nat} {ts lv : Nat → Rat} {st : Nat → Int} (h : ShB w g n k ts lv st) (hi : i < k) : w.cell? ⟨g, i * 3, none⟩ = some (.string ⟨(txt (ts i)).toArray⟩) ∧ w.cell? ⟨g, i * 3 + 1, none⟩ = some (.string ⟨(txt (lv i)).toArray⟩) ∧ w.cell? ⟨g, i * 3 + 2, none⟩ = some (.int .i64 (st i)) := by
  obtain ⟨arr, h1, h2, h3⟩ := h
  obtain ⟨c0, c1, c2⟩ := h3 i hi
  exact ⟨(cell_of_row w g _ _ _ _ h1).trans c0, (cell_of_row w g _ _ _ _ h1).trans c1, (cell_of_row w g _ _ _ _ h1).trans c2⟩

theorem Solved.later {w w1 w' : World} {pool : List Int} {us : List Usr} {g : Nat} {d : FD} (h : Solved w1 w' pool us g d) (hb : Below w.heap.size w w1) : Solved w w' pool us g d := ⟨h.of, Nat.le_trans hb.size h.low, h.sh, hb.trans (h.bel.mono hb.size)⟩

end Go.Proofs.YtigokanoflkinaaGreatDoor
