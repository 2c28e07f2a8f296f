/- fill.areWithinCaps. (Laid by mkfill.py.) -/
import Derived.Test.YtigokanoflkinaaGreatDoorFVals
import Derived.Test.YtigokanoflkinaaGreatDoorWChk
import Derived.Deep.RegionHeld3
namespace Go.Proofs.YtigokanoflkinaaGreatDoor
set_option linter.unusedSimpArgs false
set_option linter.unusedVariables false
open Go.RowKit Por
/-- every user is one of k kinds -/
def Good (us : List Usr) (k : Nat) : Prop := ∀ i, i < us.length → usrB k (ug us i) = true
theorem Good.cap {us : List Usr} {k i : Nat} (h : Good us k) (hi : i < us.length) : 0 ≤ (ug us i).cap ∧ (ug us i).cap ≤ 1000 := by
  have := h i hi
  unfold usrB at this
  simp only [Bool.and_eq_true, decide_eq_true_eq] at this
  exact ⟨this.1.1.2.2.2.1, this.1.1.2.2.2.2⟩
theorem Good.wt {us : List Usr} {k i : Nat} (h : Good us k) (hi : i < us.length) : 1 ≤ (ug us i).wt ∧ (ug us i).wt ≤ 100 := by
  have := h i hi
  unfold usrB at this
  simp only [Bool.and_eq_true, decide_eq_true_eq] at this
  exact ⟨this.1.1.2.1, this.1.1.2.2.1⟩
theorem Good.len {us : List Usr} {k i : Nat} (h : Good us k) (hi : i < us.length) : (ug us i).dem.length = k := by
  have := h i hi
  unfold usrB at this
  simp only [Bool.and_eq_true, decide_eq_true_eq] at this
  exact this.1.1.1
theorem lm_amt {xs : List Int} (h : amtsB xs = true) (r : Nat) : amtB (lm xs r) = true := by
  unfold lm
  rw [List.getD_eq_getElem?_getD]
  by_cases hr : r < xs.length
  · rw [List.getElem?_eq_getElem hr]
    unfold amtsB at h
    rw [List.all_eq_true] at h
    exact h _ (List.getElem_mem hr)
  · rw [List.getElem?_eq_none (by omega)]; decide
theorem amt_rng {x : Int} (h : amtB x = true) : 0 ≤ x ∧ x ≤ 10000 := by unfold amtB at h; simpa using h
theorem Good.dem {us : List Usr} {k i : Nat} (h : Good us k) (hi : i < us.length) (r : Nat) : amtB (lm (ug us i).dem r) = true := by
  have := h i hi
  unfold usrB at this
  simp only [Bool.and_eq_true] at this
  exact lm_amt this.1.2 r
theorem Good.some {us : List Usr} {k i : Nat} (h : Good us k) (hi : i < us.length) : ∃ r, r < k ∧ 0 < lm (ug us i).dem r := by
  have h1 := h i hi
  have h2 := h.len hi
  unfold usrB at h1
  simp only [Bool.and_eq_true] at h1
  have h3 := h1.2
  unfold wantsB at h3
  rw [List.any_eq_true] at h3
  obtain ⟨x, hx, hp⟩ := h3
  obtain ⟨r, hr, rfl⟩ := List.getElem_of_mem hx
  refine ⟨r, by omega, ?_⟩
  rw [← lm_get _ hr]; simpa using hp

end Go.Proofs.YtigokanoflkinaaGreatDoor
