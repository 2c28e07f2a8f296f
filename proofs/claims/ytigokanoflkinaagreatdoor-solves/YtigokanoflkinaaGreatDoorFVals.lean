/- What the calls of fill reckon: plain words. -/
import Derived.Test.YtigokanoflkinaaGreatDoorFFrac
import Derived.Test.YtigokanoflkinaaGreatDoorWRat
import Derived.Test.YtigokanoflkinaaGreatDoorWEx
namespace Go.Proofs.YtigokanoflkinaaGreatDoor
set_option linter.unusedSimpArgs false
set_option linter.unusedVariables false
open Go.RowKit Por

theorem Tab.drew {w : World} (h : Tab w) : Tab w.drew := h.below (Below.refl _ _).drew
theorem Tab.of {w w' : World} (h : Tab w) (hb : Below w.heap.size w w') : Tab w' := h.below hb

/-- limbs of a fraction's parts, bounded -/
theorem Row.sm1 {w : World} {ao : Option Addr} {n cap : Nat} {q : Rat} {L : Nat} (h : Row w ao n cap (limbs q.num.natAbs)) (hq : Sm q L) : n ≤ L := by rw [← h.len]; exact hq.1
theorem Row.sm2 {w : World} {ao : Option Addr} {n cap : Nat} {q : Rat} {L : Nat} (h : Row w ao n cap (limbs q.den)) (hq : Sm q L) : n ≤ L := by rw [← h.len]; exact hq.2

theorem cmp_lt {x y : Rat} : cmpQ x y < 0 ↔ x < y := by
  unfold cmpQ; split
  · rename_i h; simp [h]
  · rename_i h; split <;> simp [h]
theorem cmp_gt {x y : Rat} : 0 < cmpQ x y ↔ y < x := by
  unfold cmpQ; split
  · rename_i h; simp; grind
  · rename_i h; split
    · rename_i e; simp; grind
    · rename_i e; simp; grind
theorem cmp_eq {x y : Rat} : cmpQ x y = 0 ↔ x = y := by
  unfold cmpQ; split
  · rename_i h; simp; grind
  · rename_i h; split
    · rename_i e; simp [e]
    · rename_i e; simp [e]

theorem Sm.int {n : Int} (h0 : -100000000000000000000 < n) (h1 : n < 100000000000000000000) : Sm (n : Rat) 5 := by
  have e1 : (n : Rat).num = n := Rat.num_intCast n
  have e2 : (n : Rat).den = 1 := Rat.den_intCast n
  unfold Sm
  rw [e1, e2]
  exact ⟨len_limbs_le (by omega), len_limbs_le (by omega)⟩
theorem Sm.amt {n : Int} (h : amtB n = true) : Sm (n : Rat) 2 := by
  have e1 : (n : Rat).num = n := Rat.num_intCast n
  have e2 : (n : Rat).den = 1 := Rat.den_intCast n
  unfold amtB at h
  rw [decide_eq_true_eq] at h
  unfold Sm
  rw [e1, e2]
  exact ⟨len_limbs_le (by omega), len_limbs_le (by omega)⟩

end Go.Proofs.YtigokanoflkinaaGreatDoor
