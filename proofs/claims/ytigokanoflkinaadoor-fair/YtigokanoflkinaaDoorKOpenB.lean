/- What is handed in: a list of numbers, with the numbers' range. -/
import Derived.Test.YtigokanoflkinaaDoorKOpen
import Derived.OpenShut
namespace Go.Proofs.YtigokanoflkinaaDoor
set_option linter.unusedSimpArgs false
set_option linter.unusedVariables false
open Go.RowKit Por Go.ChangeShapes Go.WideShapes

theorem lm_take {zs : List Int} {n i : Nat} (h : i < n) : lm (zs.take n) i = zs[i]?.getD 0 := by
  unfold lm; rw [List.getD_eq_getElem?_getD, List.getElem?_take, if_pos h]
theorem ints_trod_b {H : Type} {enc : TypeId × Value → H} {W : World} {sp : Nat → Bool} {hd : Bool} {fuel : Nat} {cs : List Value} {x : DataW H × List MemPlace} (h : DataW.trod enc Tryd.prog W 0 sp hd fuel 29 cs = some x) :
    ∃ ao n cap xs, cs = [.slice ao n cap] ∧ Arr W 1 ao n cap (ints xs) ∧ ∀ i, i < n → -9223372036854775808 ≤ lm xs i ∧ lm xs i ≤ 9223372036854775807 := by
  rcases open_ints Tryd.underlying29 Tryd.underlying3 Tryd.cellsInt h with ⟨hcs, hx⟩ | ⟨a, len, cap, zs, hcs, _, hl, hm, hz, hx, hcell, hwz⟩
  · exact ⟨none, 0, 0, [], hcs, Arr.nil _ _, fun i hi => by omega⟩
  · have hzl : len ≤ zs.length := by rw [hz]; split <;> omega
    refine ⟨some a, len, cap, zs.take len, hcs, ⟨by rw [ints_len, List.length_take]; omega, hl, hm, fun h0 => ?_, ?_⟩, fun i hi => ?_⟩
    · have hc := hcell 0 (by omega)
      have e : a.add 0 = a := by unfold Addr.add; simp
      rw [e] at hc
      have hs := cell_spot hc
      exact ⟨a.block, a.off, by rw [← hs], World.block_lt_of_cell? W a hc⟩
    · intro b o e i v hv j u hu
      cases e
      have hi : i < len := by
        have := (List.getElem?_eq_some_iff.1 hv).1
        rw [ints_len, List.length_take] at this; omega
      have hc := hcell i (by omega)
      rw [add_plain] at hc
      unfold ints at hv
      rw [List.getElem?_map, List.getElem?_take, if_pos hi, List.getElem?_eq_getElem (by omega)] at hv
      cases hv
      match j with
      | 0 =>
        rw [Nat.mul_one, Nat.add_zero, hc, ← hu]
        rw [List.getD_eq_getElem?_getD, List.getElem?_eq_getElem (by omega)]; rfl
      | j + 1 => simp [Value.cells] at hu
    · rw [lm_take hi]; exact range_i64 hwz i
end Go.Proofs.YtigokanoflkinaaDoor
