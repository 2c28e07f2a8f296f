/- Alone: a weight's part of the pool. -/
import Derived.Test.YtigokanoflkinabDoorKConA
namespace Go.Proofs.YtigokanoflkinabDoor
set_option linter.unusedSimpArgs false
set_option linter.unusedVariables false
open Go.RowKit Por

/-- the first k weights' sum -/
def wsum (us : List Usr) : Nat → Int
  | 0 => 0
  | k + 1 => wsum us k + (ug us k).wt
theorem wsum_rng {us : List Usr} {kk : Nat} (hg : Good us kk) : ∀ k, k ≤ us.length → (k : Int) ≤ wsum us k ∧ wsum us k ≤ 100 * (k : Int) := by
  intro k
  induction k with
  | zero => intro _; simp [wsum]
  | succ k ih =>
    intro hk
    have h1 := ih (by omega)
    have h2 := hg.wt (i := k) (by omega)
    simp only [wsum]
    omega
theorem wsum_rat (us : List Usr) : ∀ k, sumN (fun i => (((ug us i).wt : Int) : Rat)) k = ((wsum us k : Int) : Rat) := by
  intro k
  induction k with
  | zero => rfl
  | succ k ih =>
    simp only [sumN, wsum]
    rw [ih, Rat.intCast_add]
/-- what a weight's part is of each kind -/
def partL (pool : List Int) (w s : Int) : Nat → List Rat
  | 0 => []
  | k + 1 => partL pool w s k ++ [fr (lm pool k * w) s]
theorem partL_len (pool : List Int) (w s : Int) (k : Nat) : (partL pool w s k).length = k := by
  induction k with
  | zero => rfl
  | succ k ih => simp only [partL, List.length_append, List.length_singleton, ih]
theorem partL_get (pool : List Int) (w s : Int) : ∀ k r, r < k → rq (partL pool w s k) r = fr (lm pool r * w) s := by
  intro k
  induction k with
  | zero => intro r h; omega
  | succ k ih =>
    intro r hr
    simp only [partL, rq]
    rw [List.getD_eq_getElem?_getD]
    by_cases e : r = k
    · subst e; rw [List.getElem?_append_right (by rw [partL_len]; exact Nat.le_refl _), partL_len]; simp
    · rw [List.getElem?_append_left (by rw [partL_len]; omega)]
      have := ih r (by omega)
      unfold rq at this
      rwa [List.getD_eq_getElem?_getD] at this
theorem mul_rng {a b : Int} (ha : 0 ≤ a ∧ a ≤ 10000) (hb : 1 ≤ b ∧ b ≤ 100) : 0 ≤ a * b ∧ a * b ≤ 1000000 := by
  have h1 : 0 ≤ a * b := Int.mul_nonneg ha.1 (by omega)
  have h2 : a * b ≤ 10000 * 100 := Int.mul_le_mul ha.2 hb.2 (by omega) (by omega)
  omega
theorem dg_int {n : Int} {k : Nat} (h : 0 ≤ n) (h2 : n < 10 ^ k) (hk : 1 ≤ k) : Dg (n : Rat) k := by
  have e1 : (n : Rat).num = n := Rat.num_intCast n
  have e2 : (n : Rat).den = 1 := Rat.den_intCast n
  unfold Dg
  rw [e1, e2]
  have : 10 ^ 1 ≤ 10 ^ k := Nat.pow_le_pow_right (by decide) hk
  refine ⟨?_, by omega⟩
  have h3 : ((n.natAbs : Nat) : Int) < ((10 ^ k : Nat) : Int) := by rw [Int.natAbs_of_nonneg h]; push_cast; exact h2
  exact Int.ofNat_lt.1 h3
theorem part_dg {a b s : Int} (ha : 0 ≤ a ∧ a ≤ 10000) (hb : 1 ≤ b ∧ b ≤ 100) (hs : 1 ≤ s ∧ s ≤ 600) : Dg (fr (a * b) s) 10 ∧ 0 ≤ fr (a * b) s := by
  have h := mul_rng ha hb
  unfold fr
  rw [if_neg (by omega)]
  exact ⟨(dg_int (k := 7) h.1 (by omega) (by omega)).div (dg_int (k := 3) (by omega) (by omega) (by omega)) (int_rat_zero (by omega)), div_nonneg (int_nonneg h.1) (int_nonneg (by omega))⟩
theorem of_wrap (v : Value) (p q : Int) (w : World) (p0 : -9223372036854775808 ≤ p) (p1 : p ≤ 9223372036854775807) (q0 : -9223372036854775808 ≤ q) (q1 : q ≤ 9223372036854775807) (ht : Tab w) :
    Calls Tryd.prog 6 #[v, .int .i64 (IntKind.i64.wrap p), .int .i64 q] w fun e w' => e = .returned (.string ⟨(txt (fr p q)).toArray⟩) ∧ Below w.heap.size w w' := by
  rw [show IntKind.i64.wrap p = p by rw [IntKind.wrap_i64]; omega]
  exact of_any v p q w p0 p1 q0 q1 ht
/-- the dues, and a weight's part -/
theorem use_alone {pool : List Int} {us : List Usr} (hg : Good us pool.length) (hpa : ∀ i, amtB (lm pool i) = true) {i : Nat} (hi : i < us.length) :
    useQ (ug us i) (rq (partL pool (ug us i).wt (wsum us us.length) pool.length)) pool.length ≤ (endS pool us).ts i := by
  have hs := wsum_rng hg us.length (Nat.le_refl _)
  unfold useQ
  rcases alone (prb_ok hg hpa) (prb_rate hg hpa) (endS_fair hg hpa).1 (i := i) hi with h | ⟨r, hr, hD, hle⟩
  · exact Rat.le_trans (leastL_le (v := (((ug us i).cap : Int) : Rat)) (by simp)) h
  · refine Rat.le_trans (leastL_le (v := rq (partL pool (ug us i).wt (wsum us us.length) pool.length) r / ((lm (ug us i).dem r : Int) : Rat)) ?_) ?_
    · rw [List.mem_append]
      left
      exact (mem_enL _).2 ⟨r, hr, by have := int_pos.1 hD; omega, rfl⟩
    · have e : fr (lm pool r * (ug us i).wt) (wsum us us.length) = ((lm pool r : Int) : Rat) * (((ug us i).wt : Int) : Rat) / ((wsum us us.length : Int) : Rat) := by
        unfold fr; rw [if_neg (by omega), Rat.intCast_mul]
      rw [partL_get _ _ _ pool.length r hr, e, ← wsum_rat]; exact hle
theorem part_all {pool : List Int} {us : List Usr} (hg : Good us pool.length) (hpa : ∀ i, amtB (lm pool i) = true) (hn : us.length ≤ 6) {i : Nat} (hi : i < us.length) : ∀ r, r < (partL pool (ug us i).wt (wsum us us.length) pool.length).length → Dg (rq (partL pool (ug us i).wt (wsum us us.length) pool.length) r) 10 ∧ 0 ≤ rq (partL pool (ug us i).wt (wsum us us.length) pool.length) r := by
  intro r hr
  rw [partL_len] at hr
  rw [partL_get _ _ _ _ _ hr]
  have hs := wsum_rng hg us.length (Nat.le_refl _)
  exact part_dg (amt_rng (hpa r)) (hg.wt hi) (by omega)
end Go.Proofs.YtigokanoflkinabDoor
