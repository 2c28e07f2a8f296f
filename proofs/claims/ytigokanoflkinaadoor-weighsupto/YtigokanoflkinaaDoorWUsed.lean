/- fill usedUp, isAtCap, wantsOneOf. (Laid by mksolve.py.) -/
import Derived.Test.YtigokanoflkinaaDoorFBool
import Derived.Test.YtigokanoflkinaaDoorWRate
import Derived.Deep.RegionHeld3
import Derived.Deep.DeepCutAuto
namespace Go.Proofs.YtigokanoflkinaaDoor
set_option linter.unusedSimpArgs false
set_option linter.unusedVariables false
open Go.RowKit Por

theorem FS.lts {w0 w : World} {d : FD} {s : St} (h : FS w0 d w s) : d.sb < w.heap.size ∧ d.rb < w.heap.size ∧ d.gr < w.heap.size ∧ d.gt < w.heap.size ∧ d.gl < w.heap.size := by
  obtain ⟨la, lb, lc, ld, le, lf, h1, h2, h3⟩ := h.box
  exact ⟨h1.lt, h.room.lt, h.rt.lt, h.ts.lt, h.lv.lt⟩

end Go.Proofs.YtigokanoflkinaaDoor
