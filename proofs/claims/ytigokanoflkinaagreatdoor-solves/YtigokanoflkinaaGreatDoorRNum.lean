/- portionref scaled, fractions; order of fractions that are not in their lowest terms. -/
import Derived.Test.YtigokanoflkinaaGreatDoorRefTxt
import Derived.Test.YtigokanoflkinaaGreatDoorWEx
import Derived.Test.YtigokanoflkinaaGreatDoorWRat
import Derived.Deep.RegionHeld3
import Derived.Test.YtigokanoflkinaaGreatDoorWFloor
import Derived.Test.YtigokanoflkinaaGreatDoorWRall
import Derived.Test.YtigokanoflkinaaGreatDoorRErr
import Derived.Deep.DeepCutAuto
namespace Go.Proofs.YtigokanoflkinaaGreatDoor
set_option linter.unusedSimpArgs false
set_option linter.unusedVariables false
open Go.RowKit Por
/-- a list of the reference's numbers, of the call's own -/
def NO (base : Nat) (w : World) (v : Value) (l : List Rat) : Prop := ∃ xs, w.ownsRow base 83 3 v l.length xs ∧ ∀ i, i < l.length → ∃ uo un uc yo yn yc, xs[i * 3]? = some (.bool (negB (rq l i))) ∧ xs[i * 3 + 1]? = some (.slice uo un uc) ∧ xs[i * 3 + 2]? = some (.slice yo yn yc) ∧ Row w uo un uc (limbs (rq l i).num.natAbs) ∧ Row w yo yn yc (limbs (rq l i).den)
theorem NO.nil (base : Nat) (w : World) : NO base w (.slice none 0 0) [] := ⟨[], World.ownsRow_nil _ _ _ _, fun i hi => by simp at hi⟩
theorem NO.below {base : Nat} {w w' : World} {v : Value} {l : List Rat} (h : NO base w v l) (hb : Below w.heap.size w w') : NO base w' v l := by
  obtain ⟨xs, ⟨h0, h⟩, h2⟩ := h
  refine ⟨xs, ⟨h0, ?_⟩, fun i hi => ?_⟩
  · rcases h with h | ⟨g, cap, cur, h1, h2, h3, h4⟩
    · exact .inl h
    · exact .inr ⟨g, cap, cur, h1, h2, (hb.block g (Array.getElem?_eq_some_iff.1 h3).1).trans h3, h4⟩
  · obtain ⟨uo, un, uc, yo, yn, yc, c0, c1, c2, r1, r2⟩ := h2 i hi
    exact ⟨uo, un, uc, yo, yn, yc, c0, c1, c2, r1.below hb, r2.below hb⟩
theorem NO.frs {base : Nat} {w : World} {v : Value} {l : List Rat} (h : NO base w v l) : ∃ ao cap, v = .slice ao l.length cap ∧ Frs w ao l.length cap (rq l) := by
  obtain ⟨xs, ⟨h0, h⟩, h2⟩ := h
  rcases h with ⟨rfl, h⟩ | ⟨g, cap, cur, rfl, hb, h3, h4, h5, h6, h7⟩
  · obtain rfl : l = [] := List.length_eq_zero_iff.1 h
    exact ⟨none, 0, rfl, [], Arr.nil _ _, fun i v hv => by simp at hv⟩
  · refine ⟨_, _, rfl, ?_⟩
    have hcur : ∀ j, j < l.length * 3 → cur[j]? = xs[j]? := fun j hj => by
      rw [← h7, ← Array.getElem?_toList, List.getElem?_take, if_pos hj]
    refine ⟨(List.range l.length).map (fun i => .agg #[cur.getD (i * 3) (.bool false), cur.getD (i * 3 + 1) (.bool false), cur.getD (i * 3 + 2) (.bool false)]), ⟨by simp, h4, h5, fun _ => ⟨g, 0, rfl, (Array.getElem?_eq_some_iff.1 h3).1⟩, ?_⟩, ?_⟩
    · intro b o e i v hv j u hu
      cases e
      have hi : i < l.length := by simpa using (List.getElem?_eq_some_iff.1 hv).1
      obtain ⟨uo, un, uc, yo, yn, yc, c0, c1, c2, r1, r2⟩ := h2 i hi
      rw [← hcur _ (by omega)] at c0 c1 c2
      rw [List.getElem?_map, List.getElem?_range hi] at hv
      cases hv
      rw [Nat.zero_add, cell_of_row w g _ _ _ _ h3]
      match j with
      | 0 => rw [Nat.add_zero, c0, ← hu]; simp [Value.cells, c0, Array.getD_eq_getD_getElem?]
      | 1 => rw [c1, ← hu]; simp [Value.cells, c1, Array.getD_eq_getD_getElem?]
      | 2 => rw [c2, ← hu]; simp [Value.cells, c2, Array.getD_eq_getD_getElem?]
      | j + 3 => simp [Value.cells] at hu
    · intro i v hv
      have hi : i < l.length := by simpa using (List.getElem?_eq_some_iff.1 hv).1
      obtain ⟨uo, un, uc, yo, yn, yc, c0, c1, c2, r1, r2⟩ := h2 i hi
      rw [← hcur _ (by omega)] at c0 c1 c2
      rw [List.getElem?_map, List.getElem?_range hi] at hv
      cases hv
      simp only [Array.getD_eq_getD_getElem?, c0, c1, c2, Option.getD_some]
      exact ⟨uo, un, uc, yo, yn, yc, rfl, r1, r2⟩
theorem rat_of (n : Int) (d : Nat) : mkRat n d = (n : Rat) / ((d : Int) : Rat) := by rw [Rat.mkRat_eq_div]; rfl
/-- a number of the reference that is x, of at most L limbs each -/
def PQv (w : World) (v : Value) (x : Rat) (L : Nat) : Prop := ∃ m ao n capa bo k capb p q, v = .agg #[.bool m, .slice ao n capa, .slice bo k capb] ∧ Row w ao n capa (limbs p) ∧ Row w bo k capb (limbs q) ∧ q ≠ 0 ∧ x = mkRat (sg m p) q ∧ n ≤ L ∧ k ≤ L
theorem PQv.below {w w' : World} {v : Value} {x : Rat} {L : Nat} (h : PQv w v x L) (hb : Below w.heap.size w w') : PQv w' v x L := by
  obtain ⟨m, ao, n, capa, bo, k, capb, p, q, h1, h2, h3, h4⟩ := h
  exact ⟨m, ao, n, capa, bo, k, capb, p, q, h1, h2.below hb, h3.below hb, h4⟩
theorem PQv.mono {w : World} {v : Value} {x : Rat} {L M : Nat} (h : PQv w v x L) (hm : L ≤ M) : PQv w v x M := by
  obtain ⟨m, ao, n, capa, bo, k, capb, p, q, h1, h2, h3, h4, h5, h6, h7⟩ := h
  exact ⟨m, ao, n, capa, bo, k, capb, p, q, h1, h2, h3, h4, h5, by omega, by omega⟩
end Go.Proofs.YtigokanoflkinaaGreatDoor
