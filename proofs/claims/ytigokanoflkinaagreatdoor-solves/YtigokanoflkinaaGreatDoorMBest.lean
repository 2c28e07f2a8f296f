/- The kind of which a user wants the greatest part. -/
import Derived.Test.YtigokanoflkinaaGreatDoorFBase
namespace Go.Proofs.YtigokanoflkinaaGreatDoor
set_option linter.unusedSimpArgs false
set_option linter.unusedVariables false
open Go.RowKit Por

/-- the kind of which the greatest part is wanted, of the first k -/
def BestOk (pool dem : List Int) (k : Nat) (b : Int) : Prop :=
  (∀ r, r < k → lm dem r ≠ 0 → 0 < lm pool r) ∧ ((b = -1 ∧ ∀ r, r < k → lm dem r = 0) ∨ ∃ m : Nat, b = m ∧ m < k ∧ 0 < lm dem m ∧ 0 < lm pool m ∧ ∀ r, r < k → lm dem r * lm pool m ≤ lm dem m * lm pool r)
theorem BestOk.zero (pool dem : List Int) : BestOk pool dem 0 (-1) := ⟨fun r h => by omega, .inl ⟨rfl, fun r h => by omega⟩⟩
theorem BestOk.skip {pool dem : List Int} {k : Nat} {b : Int} (h : BestOk pool dem k b) (hd : lm dem k = 0) (hp : 0 ≤ lm pool k) : BestOk pool dem (k + 1) b := by
  obtain ⟨h1, h2⟩ := h
  have step : ∀ {Q : Nat → Prop}, (∀ r, r < k → Q r) → Q k → ∀ r, r < k + 1 → Q r := fun {Q} a b r hr => by
    by_cases e : r = k
    · subst e; exact b
    · exact a r (by omega)
  refine ⟨step h1 (fun h5 => absurd hd h5), ?_⟩
  rcases h2 with ⟨e, h3⟩ | ⟨m, e, hm, h3, h4, h5⟩
  · exact .inl ⟨e, step h3 hd⟩
  · refine .inr ⟨m, e, by omega, h3, h4, step h5 ?_⟩
    rw [hd, Int.zero_mul]
    exact Int.mul_nonneg (by omega) hp
theorem BestOk.first {pool dem : List Int} {k : Nat} (h : BestOk pool dem k (-1)) (hpn : ∀ r, 0 ≤ lm pool r) (hd : 0 < lm dem k) (hp : 0 < lm pool k) : BestOk pool dem (k + 1) k := by
  obtain ⟨h1, h2⟩ := h
  have step : ∀ {Q : Nat → Prop}, (∀ r, r < k → Q r) → Q k → ∀ r, r < k + 1 → Q r := fun {Q} a b r hr => by
    by_cases e : r = k
    · subst e; exact b
    · exact a r (by omega)
  rcases h2 with ⟨e, h3⟩ | ⟨m, e, _⟩
  · refine ⟨step h1 (fun _ => hp), .inr ⟨k, rfl, by omega, hd, hp, step (fun r hr => ?_) (Int.le_refl _)⟩⟩
    have hz := h3 r hr
    rw [hz, Int.zero_mul]
    exact Int.mul_nonneg (by omega) (hpn r)
  · omega
theorem cross_le {a p b q c s : Int} (hp : 0 < p) (hq : 0 < q) (hs : 0 ≤ s) (hc : 0 ≤ c) (h1 : a * p ≤ b * s) (h2 : b * q < c * p) (ha : 0 ≤ a) : a * q ≤ c * s := by
  have e1 : (a * q) * p ≤ (c * s) * p := by
    have t1 : (a * p) * q ≤ (b * s) * q := Int.mul_le_mul_of_nonneg_right h1 (by omega)
    have t2 : (b * q) * s ≤ (c * p) * s := Int.mul_le_mul_of_nonneg_right (by omega) hs
    have u1 : (a * q) * p = (a * p) * q := by rw [Int.mul_assoc, Int.mul_comm q p, ← Int.mul_assoc]
    have u2 : (b * s) * q = (b * q) * s := by rw [Int.mul_assoc, Int.mul_comm s q, ← Int.mul_assoc]
    have u3 : (c * p) * s = (c * s) * p := by rw [Int.mul_assoc, Int.mul_comm p s, ← Int.mul_assoc]
    omega
  exact Int.le_of_mul_le_mul_right e1 hp
theorem BestOk.keep {pool dem : List Int} {k m : Nat} (h : BestOk pool dem k m) (hp : 0 < lm pool k) (hle : lm dem k * lm pool m ≤ lm dem m * lm pool k) : BestOk pool dem (k + 1) m := by
  obtain ⟨h1, h2⟩ := h
  have step : ∀ {Q : Nat → Prop}, (∀ r, r < k → Q r) → Q k → ∀ r, r < k + 1 → Q r := fun {Q} a b r hr => by
    by_cases e : r = k
    · subst e; exact b
    · exact a r (by omega)
  rcases h2 with ⟨e, h3⟩ | ⟨m', e, hm, h3, h4, h5⟩
  · omega
  · obtain rfl : m = m' := by omega
    exact ⟨step h1 (fun _ => hp), .inr ⟨m, rfl, by omega, h3, h4, step h5 hle⟩⟩
theorem BestOk.turn {pool dem : List Int} {k m : Nat} (h : BestOk pool dem k m) (hpn : ∀ r, 0 ≤ lm pool r) (hdn : ∀ r, 0 ≤ lm dem r) (hp : 0 < lm pool k) (hlt : lm dem m * lm pool k < lm dem k * lm pool m) : BestOk pool dem (k + 1) k := by
  obtain ⟨h1, h2⟩ := h
  have step : ∀ {Q : Nat → Prop}, (∀ r, r < k → Q r) → Q k → ∀ r, r < k + 1 → Q r := fun {Q} a b r hr => by
    by_cases e : r = k
    · subst e; exact b
    · exact a r (by omega)
  rcases h2 with ⟨e, h3⟩ | ⟨m', e, hm, h3, h4, h5⟩
  · omega
  · obtain rfl : m = m' := by omega
    have hdk : 0 < lm dem k := by
      apply Classical.byContradiction
      intro hn
      have e0 : lm dem k = 0 := by have := hdn k; omega
      rw [e0, Int.zero_mul] at hlt
      have := Int.mul_nonneg (hdn m) (hpn k)
      omega
    exact ⟨step h1 (fun _ => hp), .inr ⟨k, rfl, by omega, hdk, hp, step (fun r hr => cross_le h4 hp (hpn r) (hdn k) (h5 r hr) hlt (hdn r)) (Int.le_refl _)⟩⟩
end Go.Proofs.YtigokanoflkinaaGreatDoor
