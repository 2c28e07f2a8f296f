/- fill shares. (Laid by mksolve.py.) -/
import Derived.Test.YtigokanoflkinaaDoorWStop
namespace Go.Proofs.YtigokanoflkinaaDoor
set_option linter.unusedSimpArgs false
set_option linter.unusedVariables false
open Go.RowKit Por

/-- block g: room for n shares, of which the first k are told -/
def ShB (w : World) (g n k : Nat) (ts lv : Nat → Rat) (st : Nat → Int) : Prop := ∃ arr, w.heap[g]? = some (.cells arr 63 (0, 0)) ∧ arr.size = n * 3 ∧ ∀ i, i < k → arr[i * 3]? = some (.string ⟨(txt (ts i)).toArray⟩) ∧ arr[i * 3 + 1]? = some (.string ⟨(txt (lv i)).toArray⟩) ∧ arr[i * 3 + 2]? = some (.int .i64 (st i))
theorem ShB.lt {w : World} {g n k : Nat} {ts lv : Nat → Rat} {st : Nat → Int} (h : ShB w g n k ts lv st) : g < w.heap.size := by
  obtain ⟨arr, h1, _⟩ := h; exact (Array.getElem?_eq_some_iff.1 h1).1
theorem ShB.below {w w' : World} {g n k : Nat} {ts lv : Nat → Rat} {st : Nat → Int} (h : ShB w g n k ts lv st) (hb : Below w.heap.size w w') : ShB w' g n k ts lv st := by
  obtain ⟨arr, h1, h2, h3⟩ := h
  exact ⟨arr, (hb.block g (Array.getElem?_eq_some_iff.1 h1).1).trans h1, h2, h3⟩
theorem ShB.frozen {w : World} {g n k : Nat} {ts lv : Nat → Rat} {st : Nat → Int} (h : ShB w g n k ts lv st) (j : Nat) : w.frozen? ⟨g, j, none⟩ = false := by
  obtain ⟨arr, h1, _⟩ := h; exact frozen_of_row w g j _ _ h1
theorem ShB.has {w : World} {g n k : Nat} {ts lv : Nat → Rat} {st : Nat → Int} (h : ShB w g n k ts lv st) {j : Nat} (hj : j < n * 3) : ∃ x, w.cell? ⟨g, j, none⟩ = some x := by
  obtain ⟨arr, h1, h2, _⟩ := h
  exact ⟨arr[j]'(by omega), (cell_of_row w g j _ _ _ h1).trans (Array.getElem?_eq_getElem (by omega))⟩
/-- share k, of which the first j cells (of three) are written -/
def ShP (w : World) (g n k j : Nat) (ts lv : Nat → Rat) (st : Nat → Int) : Prop := ∃ arr, w.heap[g]? = some (.cells arr 63 (0, 0)) ∧ arr.size = n * 3 ∧ (∀ i, i < k → arr[i * 3]? = some (.string ⟨(txt (ts i)).toArray⟩) ∧ arr[i * 3 + 1]? = some (.string ⟨(txt (lv i)).toArray⟩) ∧ arr[i * 3 + 2]? = some (.int .i64 (st i))) ∧ (1 ≤ j → arr[k * 3]? = some (.string ⟨(txt (ts k)).toArray⟩)) ∧ (2 ≤ j → arr[k * 3 + 1]? = some (.string ⟨(txt (lv k)).toArray⟩))
theorem ShP.below {w w' : World} {g n k j : Nat} {ts lv : Nat → Rat} {st : Nat → Int} (h : ShP w g n k j ts lv st) (hb : Below w.heap.size w w') : ShP w' g n k j ts lv st := by
  obtain ⟨arr, h1, h2, h3⟩ := h
  exact ⟨arr, (hb.block g (Array.getElem?_eq_some_iff.1 h1).1).trans h1, h2, h3⟩
theorem ShP.lt {w : World} {g n k j : Nat} {ts lv : Nat → Rat} {st : Nat → Int} (h : ShP w g n k j ts lv st) : g < w.heap.size := by
  obtain ⟨arr, h1, _⟩ := h; exact (Array.getElem?_eq_some_iff.1 h1).1
theorem ShP.frozen {w : World} {g n k j : Nat} {ts lv : Nat → Rat} {st : Nat → Int} (h : ShP w g n k j ts lv st) (i : Nat) : w.frozen? ⟨g, i, none⟩ = false := by
  obtain ⟨arr, h1, _⟩ := h; exact frozen_of_row w g i _ _ h1
theorem ShP.has {w : World} {g n k j : Nat} {ts lv : Nat → Rat} {st : Nat → Int} (h : ShP w g n k j ts lv st) {i : Nat} (hj : i < n * 3) : ∃ x, w.cell? ⟨g, i, none⟩ = some x := by
  obtain ⟨arr, h1, h2, _⟩ := h
  exact ⟨arr[i]'(by omega), (cell_of_row w g i _ _ _ h1).trans (Array.getElem?_eq_getElem (by omega))⟩
theorem ShB.part {w : World} {g n k : Nat} {ts lv : Nat → Rat} {st : Nat → Int} (h : ShB w g n k ts lv st) : ShP w g n k 0 ts lv st := by
  obtain ⟨arr, h1, h2, h3⟩ := h
  exact ⟨arr, h1, h2, h3, fun h => by omega, fun h => by omega⟩
end Go.Proofs.YtigokanoflkinaaDoor
