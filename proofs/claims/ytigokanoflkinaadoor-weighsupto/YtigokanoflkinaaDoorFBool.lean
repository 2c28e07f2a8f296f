/- A list of bools in memory; stores into a box. -/
import Derived.Test.YtigokanoflkinaaDoorFFill
namespace Go.Proofs.YtigokanoflkinaaDoor
set_option linter.unusedSimpArgs false
set_option linter.unusedVariables false
open Go.RowKit Por

/-- block g: room for n bools, of which the first k are told by f -/
def BB (w : World) (g n k : Nat) (f : Nat → Bool) : Prop := ∃ arr, w.heap[g]? = some (.cells arr 4 (0, 0)) ∧ arr.size = n ∧ ∀ i, i < k → arr[i]? = some (.bool (f i))
theorem BB.lt {w : World} {g n k : Nat} {f : Nat → Bool} (h : BB w g n k f) : g < w.heap.size := by
  obtain ⟨arr, h1, _⟩ := h; exact (Array.getElem?_eq_some_iff.1 h1).1
theorem BB.below {w w' : World} {g n k : Nat} {f : Nat → Bool} (h : BB w g n k f) (hb : Below w.heap.size w w') : BB w' g n k f := by
  obtain ⟨arr, h1, h2, h3⟩ := h
  exact ⟨arr, (hb.block g (Array.getElem?_eq_some_iff.1 h1).1).trans h1, h2, h3⟩
theorem BB.alloc {w : World} {g n k : Nat} {f : Nat → Bool} (h : BB w g n k f) (o : Obj) : BB (w.alloc o) g n k f := h.below ((Below.refl _ _).alloc (Nat.le_refl _) o)
theorem BB.drew {w : World} {g n k : Nat} {f : Nat → Bool} (h : BB w g n k f) : BB w.drew g n k f := h.below (Below.refl _ _).drew
theorem BB.cell {w : World} {g n k i : Nat} {f : Nat → Bool} (h : BB w g n k f) (hi : i < k) : w.cell? ⟨g, i, none⟩ = some (.bool (f i)) := by
  obtain ⟨arr, h1, h2, h3⟩ := h
  exact (cell_of_row w g _ _ _ _ h1).trans (h3 i hi)
theorem BB.frozen {w : World} {g n k : Nat} {f : Nat → Bool} (h : BB w g n k f) (j : Nat) : w.frozen? ⟨g, j, none⟩ = false := by
  obtain ⟨arr, h1, _⟩ := h; exact frozen_of_row w g j _ _ h1
theorem BB.has {w : World} {g n k : Nat} {f : Nat → Bool} (h : BB w g n k f) {j : Nat} (hj : j < n) : ∃ x, w.cell? ⟨g, j, none⟩ = some x := by
  obtain ⟨arr, h1, h2, _⟩ := h
  exact ⟨arr[j]'(by omega), (cell_of_row w g j _ _ _ h1).trans (Array.getElem?_eq_getElem (by omega))⟩
theorem BB.put {w : World} {g n k : Nat} {f : Nat → Bool} (h : BB w g n k f) (hk : k < n) : BB (w.setCell ⟨g, k, none⟩ (.bool (f k))) g n (k + 1) f := by
  obtain ⟨arr, h1, h2, h3⟩ := h
  refine ⟨_, heap_setCell_same w g k _ _ _ h1, by simp [h2], fun i hi => ?_⟩
  by_cases e : i = k
  · subst e; rw [Array.getElem?_setIfInBounds_self_of_lt (by omega)]
  · rw [Array.getElem?_setIfInBounds_ne (by omega)]; exact h3 i (by omega)
end Go.Proofs.YtigokanoflkinaaDoor
