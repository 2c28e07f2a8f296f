/- portionkeep bundle, atMost. (Laid by mkkeepb.py.) -/
import Derived.Test.YtigokanoflkinaaGreatDoorKAsk
import Derived.Test.YtigokanoflkinaaGreatDoorWRate
import Derived.Test.YtigokanoflkinaaGreatDoorWFeas
import Derived.Test.YtigokanoflkinaaGreatDoorWLeast
import Derived.Test.YtigokanoflkinaaGreatDoorWEx
namespace Go.Proofs.YtigokanoflkinaaGreatDoor
set_option linter.unusedSimpArgs false
set_option linter.unusedVariables false
open Go.RowKit Por

/-- a text in memory -/
def tb (q : Rat) : ByteArray := ⟨(txt q).toArray⟩
/-- a list of texts of fractions, of the call's own -/
def TO (base : Nat) (w : World) (v : Value) (l : List Rat) : Prop := w.ownsRow base 9 1 v l.length (l.map (fun q => Value.string ⟨(txt q).toArray⟩))
theorem TO.nil (base : Nat) (w : World) : TO base w (.slice none 0 0) [] := World.ownsRow_nil _ _ _ _
theorem TO.below {base : Nat} {w w' : World} {v : Value} {l : List Rat} (h : TO base w v l) (hb : Below w.heap.size w w') : TO base w' v l := by
  obtain ⟨h0, h⟩ := h
  refine ⟨h0, ?_⟩
  rcases h with h | ⟨g, cap, cur, h1, h2, h3, h4⟩
  · exact .inl h
  · exact .inr ⟨g, cap, cur, h1, h2, (hb.block g (Array.getElem?_eq_some_iff.1 h3).1).trans h3, h4⟩
theorem TO.alloc {base : Nat} {w : World} {v : Value} {l : List Rat} (h : TO base w v l) (o : Obj) : TO base (w.alloc o) v l := h.below ((Below.refl _ _).alloc (Nat.le_refl _) o)
theorem TO.arr {base : Nat} {w : World} {v : Value} {l : List Rat} (h : TO base w v l) : ∃ ao cap, v = .slice ao l.length cap ∧ Arr w 1 ao l.length cap (strs (l.map tb)) := by
  obtain ⟨h0, h⟩ := h
  rcases h with ⟨rfl, h⟩ | ⟨g, cap, cur, rfl, hb, h3, h4, h5, h6, h7⟩
  · obtain rfl : l = [] := List.length_eq_zero_iff.1 h
    exact ⟨none, 0, rfl, Arr.nil _ _⟩
  · refine ⟨_, _, rfl, ⟨by simp [strs], h4, h5, fun _ => ⟨g, 0, rfl, (Array.getElem?_eq_some_iff.1 h3).1⟩, ?_⟩⟩
    intro b o e i v hv j u hu
    cases e
    have hi : i < l.length := by simpa [strs] using (List.getElem?_eq_some_iff.1 hv).1
    unfold strs at hv
    rw [List.map_map, List.getElem?_map, List.getElem?_eq_getElem hi] at hv
    cases hv
    match j with
    | 0 =>
      rw [Nat.zero_add, cell_of_row w g _ _ _ _ h3]
      have e1 : cur.toList[i * 1 + 0]? = (cur.toList.take (l.length * 1))[i * 1 + 0]? := by rw [List.getElem?_take, if_pos (by omega)]
      rw [← Array.getElem?_toList, e1, h7, List.getElem?_map, Nat.mul_one, Nat.add_zero, List.getElem?_eq_getElem hi]
      exact hu
    | j + 1 => simp [Value.cells] at hu
theorem Dg.amt {n : Int} (h : amtB n = true) : Dg (n : Rat) 5 := by
  have e1 : (n : Rat).num = n := Rat.num_intCast n
  have e2 : (n : Rat).den = 1 := Rat.den_intCast n
  have := amt_rng h
  unfold Dg
  rw [e1, e2]
  exact ⟨by omega, by omega⟩

end Go.Proofs.YtigokanoflkinaaGreatDoor
