/- Fair: another sharing, in whole numbers and as fractions. -/
import Derived.Test.YtigokanoflkinaaDoorKShr
namespace Go.Proofs.YtigokanoflkinaaDoor
set_option linter.unusedSimpArgs false
set_option linter.unusedVariables false
open Go.RowKit Por

/-- what the first j want of kind r -/
def sumY (us : List Usr) (ys : List Int) (r : Nat) : Nat → Int
  | 0 => 0
  | j + 1 => sumY us ys r j + lm ys j * lm (ug us j).dem r
theorem term_rng {us : List Usr} {ys : List Int} {m : Int} {kk : Nat} (hg : Good us kk) (hm : 1 ≤ m ∧ m ≤ 1000) (hs : ShrOk us m ys us.length) {j : Nat} (hj : j < us.length) (r : Nat) : 0 ≤ lm ys j * lm (ug us j).dem r ∧ lm ys j * lm (ug us j).dem r ≤ 10000000000 := by
  have h1 := hs.2 j hj
  have h2 := capm_rng (hg.cap hj) hm
  have h3 := amt_rng (hg.dem hj r)
  have h4 : lm ys j ≤ 1000000 := by omega
  refine ⟨Int.mul_nonneg h1.1 h3.1, ?_⟩
  have := Int.mul_le_mul h4 h3.2 h3.1 (by omega)
  omega
theorem sumY_rng {us : List Usr} {ys : List Int} {m : Int} {kk : Nat} (hg : Good us kk) (hm : 1 ≤ m ∧ m ≤ 1000) (hs : ShrOk us m ys us.length) (r : Nat) : ∀ j, j ≤ us.length → 0 ≤ sumY us ys r j ∧ sumY us ys r j ≤ 10000000000 * j := by
  intro j
  induction j with
  | zero => intro _; exact ⟨Int.le_refl _, Int.le_refl _⟩
  | succ j ih =>
    intro hj
    have h1 := ih (by omega)
    have h2 := term_rng hg hm hs (j := j) (by omega) r
    simp only [sumY]
    generalize lm ys j * lm (ug us j).dem r = t at h2 ⊢
    omega
/-- does the pool bear it, of the first k kinds? -/
def brnB (pool : List Int) (us : List Usr) (ys : List Int) (m : Int) : Nat → Bool
  | 0 => true
  | k + 1 => brnB pool us ys m k && decide (sumY us ys k us.length ≤ lm pool k * m)
theorem brnB_false {pool : List Int} {us : List Usr} {ys : List Int} {m : Int} {r k : Nat} (hr : r < k) (h : lm pool r * m < sumY us ys r us.length) : brnB pool us ys m k = false := by
  induction k with
  | zero => omega
  | succ k ih =>
    simp only [brnB]
    by_cases e : r = k
    · subst e; rw [decide_eq_false (by omega), Bool.and_false]
    · rw [ih (by omega), Bool.false_and]
/-- the other sharing's part of user i -/
def yq (ys : List Int) (m : Int) (i : Nat) : Rat := fr (lm ys i) m
theorem yq_eq {ys : List Int} {m : Int} (hm : 1 ≤ m) (i : Nat) : yq ys m i = ((lm ys i : Int) : Rat) / ((m : Int) : Rat) := by
  unfold yq fr; rw [if_neg (by omega)]
theorem sum_scale {us : List Usr} {ys : List Int} {m : Int} (hm : 1 ≤ m) (r : Nat) : ∀ j, totF us (yq ys m) r j * ((m : Int) : Rat) = ((sumY us ys r j : Int) : Rat) := by
  have hm0 : ((m : Int) : Rat) ≠ 0 := int_rat_zero (by omega)
  intro j
  induction j with
  | zero => simp [totF, sumN, sumY]
  | succ j ih =>
    have e : totF us (yq ys m) r (j + 1) = totF us (yq ys m) r j + yq ys m j * dm us j r := rfl
    rw [e, Rat.add_mul, ih]
    simp only [sumY]
    rw [Rat.intCast_add, Rat.intCast_mul, yq_eq hm]
    have e2 : dm us j r = ((lm (ug us j).dem r : Int) : Rat) := rfl
    rw [e2]
    generalize ((lm (ug us j).dem r : Int) : Rat) = a at *
    generalize ((lm ys j : Int) : Rat) = b at *
    generalize ((m : Int) : Rat) = c at *
    grind
theorem le_scale {a b : Rat} {m : Int} (hm : 1 ≤ m) : a ≤ b ↔ a * ((m : Int) : Rat) ≤ b * ((m : Int) : Rat) := by
  have hm0 : (0 : Rat) < ((m : Int) : Rat) := int_pos.2 (by omega)
  exact ⟨fun h => mul_le_right h (Rat.le_of_lt hm0), fun h => le_of_mul h hm0⟩
theorem borne_eq {pool : List Int} {us : List Usr} {ys : List Int} {m : Int} (hm : 1 ≤ m) : ∀ k, borneB pool us (yq ys m) us.length k = brnB pool us ys m k := by
  intro k
  induction k with
  | zero => rfl
  | succ k ih =>
    simp only [borneB, brnB]
    rw [ih]
    congr 1
    rw [decide_eq_decide, le_scale hm, sum_scale hm, ← Rat.intCast_mul]
    exact int_le
theorem y_low {us : List Usr} {ys : List Int} {m : Int} (hm : 1 ≤ m) (hs : ShrOk us m ys us.length) {i : Nat} (hi : i < us.length) : 0 ≤ yq ys m i := by
  rw [yq_eq hm]
  exact div_nonneg (int_nonneg (hs.2 i hi).1) (int_nonneg (by omega))
theorem y_cap {us : List Usr} {ys : List Int} {m : Int} (hm : 1 ≤ m) (hs : ShrOk us m ys us.length) {i : Nat} (hi : i < us.length) : yq ys m i ≤ (((ug us i).cap : Int) : Rat) := by
  rw [yq_eq hm]
  refine div_le (int_pos.2 (by omega)) ?_
  rw [← Rat.intCast_mul]
  exact int_le.2 (hs.2 i hi).2
theorem within_eq {us : List Usr} {ys : List Int} {m : Int} (hm : 1 ≤ m) (hs : ShrOk us m ys us.length) : withinB us (yq ys m) us.length = true := by
  unfold withinB
  rw [negAny_false us.length (fun i hi => y_low hm hs hi)]
  have : ∀ k, k ≤ us.length → capAll us (yq ys m) k = true := by
    intro k
    induction k with
    | zero => intro _; rfl
    | succ k ih =>
      intro hk
      simp only [capAll]
      rw [ih (by omega), decide_eq_true (y_cap hm hs (by omega))]; rfl
  rw [this _ (Nat.le_refl _)]; rfl
theorem y_dg {us : List Usr} {ys : List Int} {m : Int} {kk : Nat} (hg : Good us kk) (hm : 1 ≤ m ∧ m ≤ 1000) (hs : ShrOk us m ys us.length) {i : Nat} (hi : i < us.length) : Dg (yq ys m i) 12 := by
  have h1 := hs.2 i hi
  have h2 := capm_rng (hg.cap hi) hm
  have d2 : ∀ n : Int, 0 ≤ n → n ≤ 1000000 → Dg (n : Rat) 7 := fun n a b => by
    have e1 : (n : Rat).num = n := Rat.num_intCast n
    have e2 : (n : Rat).den = 1 := Rat.den_intCast n
    unfold Dg; rw [e1, e2]; exact ⟨by omega, by omega⟩
  have d1 : ∀ n : Int, 0 ≤ n → n ≤ 1000 → Dg (n : Rat) 5 := fun n a b => by
    have e1 : (n : Rat).num = n := Rat.num_intCast n
    have e2 : (n : Rat).den = 1 := Rat.den_intCast n
    unfold Dg; rw [e1, e2]; exact ⟨by omega, by omega⟩
  rw [yq_eq hm.1]
  exact (d2 _ h1.1 (by omega)).div (d1 _ (by omega) hm.2) (int_rat_zero (by omega))
/-- the texts -/
def yL (ys : List Int) (m : Int) : Nat → List Rat
  | 0 => []
  | k + 1 => yL ys m k ++ [yq ys m k]
theorem yL_len (ys : List Int) (m : Int) (k : Nat) : (yL ys m k).length = k := by
  induction k with
  | zero => rfl
  | succ k ih => simp only [yL, List.length_append, List.length_singleton, ih]
theorem yL_get (ys : List Int) (m : Int) : ∀ k r, r < k → rq (yL ys m k) r = yq ys m r := by
  intro k
  induction k with
  | zero => intro r h; omega
  | succ k ih =>
    intro r hr
    simp only [yL, rq]
    rw [List.getD_eq_getElem?_getD]
    by_cases e : r = k
    · subst e; rw [List.getElem?_append_right (by rw [yL_len]; exact Nat.le_refl _), yL_len]; simp
    · rw [List.getElem?_append_left (by rw [yL_len]; omega)]
      have := ih r (by omega)
      unfold rq at this
      rwa [List.getD_eq_getElem?_getD] at this
theorem negAny_congr {f g : Nat → Rat} : ∀ n, (∀ i, i < n → f i = g i) → negAny f n = negAny g n := by
  intro n
  induction n with
  | zero => intro _; rfl
  | succ n ih => intro h; simp only [negAny]; rw [ih (fun i hi => h i (by omega)), h n (by omega)]
theorem capAll_congr {us : List Usr} {f g : Nat → Rat} : ∀ n, (∀ i, i < n → f i = g i) → capAll us f n = capAll us g n := by
  intro n
  induction n with
  | zero => intro _; rfl
  | succ n ih => intro h; simp only [capAll]; rw [ih (fun i hi => h i (by omega)), h n (by omega)]
theorem borneB_congr {pool : List Int} {us : List Usr} {f g : Nat → Rat} {n : Nat} (h : ∀ i, i < n → f i = g i) : ∀ k, borneB pool us f n k = borneB pool us g n k := by
  intro k
  induction k with
  | zero => rfl
  | succ k ih =>
    simp only [borneB]
    rw [ih]
    have : totF us f k n = totF us g k n := sumN_congr (fun i hi => by rw [h i hi])
    rw [this]
theorem yL_dg {us : List Usr} {ys : List Int} {m : Int} {kk : Nat} (hg : Good us kk) (hm : 1 ≤ m ∧ m ≤ 1000) (hs : ShrOk us m ys us.length) : ∀ r, r < (yL ys m us.length).length → Dg (rq (yL ys m us.length) r) 12 := by
  intro r hr
  rw [yL_len] at hr
  rw [yL_get _ _ _ _ hr]; exact y_dg hg hm hs hr
theorem feas_eq {pool : List Int} {us : List Usr} {ys : List Int} {m : Int} (he : errOf pool us = 0) (hm : 1 ≤ m ∧ m ≤ 1000) (hs : ShrOk us m ys us.length) : feasOf pool us ((yL ys m us.length).map tb) = (brnB pool us ys m pool.length, 0) := by
  obtain ⟨hpb, hn6, hgood, hpa, hp1, hp4⟩ := errOf_zero he
  have hd := yL_dg hgood hm hs
  have hv : ∀ i, i < us.length → svs ((yL ys m us.length).map tb) i = yq ys m i := fun i hi => by
    rw [svs_map hd (by omega) (by omega) (by rw [yL_len]; exact hi), yL_get _ _ _ _ hi]
  unfold feasOf
  rw [if_neg (fun h => h he), if_neg]
  · have e1 : withinB us (svs ((yL ys m us.length).map tb)) us.length = true := by
      rw [← within_eq hm.1 hs]
      unfold withinB
      rw [negAny_congr _ hv, capAll_congr _ hv]
    rw [e1, borneB_congr hv, borne_eq hm.1]; rfl
  · rw [ok_map hd (by omega) (by omega), List.length_map, yL_len]; simp
/-- at whose cost? -/
def costB (x y lv : Nat → Rat) (i : Nat) : Nat → Bool
  | 0 => false
  | j + 1 => costB x y lv i j || (decide (y j < x j) && decide (lv j ≤ lv i))
theorem costB_true {x y lv : Nat → Rat} {i j n : Nat} (hj : j < n) (h1 : y j < x j) (h2 : lv j ≤ lv i) : costB x y lv i n = true := by
  induction n with
  | zero => omega
  | succ n ih =>
    simp only [costB]
    by_cases e : j = n
    · subst e; rw [decide_eq_true h1, decide_eq_true h2]; simp
    · rw [ih (by omega), Bool.true_or]
theorem brnB_all {pool : List Int} {us : List Usr} {ys : List Int} {m : Int} : ∀ k, brnB pool us ys m k = true → ∀ r, r < k → sumY us ys r us.length ≤ lm pool r * m := by
  intro k
  induction k with
  | zero => intro _ r hr; omega
  | succ k ih =>
    intro h r hr
    simp only [brnB, Bool.and_eq_true, decide_eq_true_eq] at h
    by_cases e : r = k
    · subst e; exact h.2
    · exact ih h.1 r (by omega)
theorem y_borne {pool : List Int} {us : List Usr} {ys : List Int} {m : Int} (hm : 1 ≤ m) (hs : ShrOk us m ys us.length) (h : brnB pool us ys m pool.length = true) : Borne (prb pool us) (yq ys m) := by
  refine ⟨fun i hi => y_low hm hs hi, fun i hi => y_cap hm hs hi, fun r hr => ?_⟩
  have h1 := brnB_all _ h r hr
  show totF us (yq ys m) r us.length ≤ _
  rw [le_scale hm, sum_scale hm]
  show _ ≤ ((lm pool r : Int) : Rat) * _
  rw [← Rat.intCast_mul]
  exact int_le.2 h1
theorem cost_all {pool : List Int} {us : List Usr} {ys : List Int} {m : Int} (hg : Good us pool.length) (hpa : ∀ i, amtB (lm pool i) = true) (hm : 1 ≤ m) (hs : ShrOk us m ys us.length) (h : brnB pool us ys m pool.length = true) {i : Nat} (hi : i < us.length) (hlt : (endS pool us).ts i < yq ys m i) : costB (endS pool us).ts (yq ys m) (endS pool us).lv i us.length = true := by
  obtain ⟨hf, hl⟩ := endS_fair hg hpa
  obtain ⟨j, hj, h1, h2⟩ := fair (prb_ok hg hpa) hf (y_borne hm hs h) hi hlt
  refine costB_true hj h1 ?_
  rw [hl j hj, hl i hi]; exact h2
end Go.Proofs.YtigokanoflkinaaDoor
