/- What portionref.Read needs. (Laid by mkrefr.py.) -/
import Derived.Test.YtddbflggcblfcaaDoorRefJ
import Derived.Test.YtddbflggcblfcaaDoorRefK
import Derived.Test.YtddbflggcblfcaaDoorWPrsC
namespace Go.Proofs.YtddbflggcblfcaaDoor
set_option linter.unusedSimpArgs false
set_option linter.unusedVariables false
open Go.RowKit Por

theorem Bx.set2 {w : World} {b : Nat} {x0 x1 x2 : Value} {T : TypeId} (h : Bx w b #[x0, x1, x2] T) (u : Value) : Bx (w.setCell ⟨b, 2, none⟩ u) b #[x0, x1, u] T := by
  unfold Bx
  rw [heap_setCell_same w b 2 _ _ u h]; rfl
theorem bytes49 : (⟨#[49]⟩ : ByteArray).data.toList = [49] := rfl
theorem dv49 : dv [49] = 1 := by decide
theorem whole49 : wholeB [49] = true := by decide

end Go.Proofs.YtddbflggcblfcaaDoor
