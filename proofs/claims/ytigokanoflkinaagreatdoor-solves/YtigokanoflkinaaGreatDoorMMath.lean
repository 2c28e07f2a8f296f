/- MFill, MLen, MRun, MRise, MDen, MRef, MRefB, joined. -/
import Derived.Test.YtigokanoflkinaaGreatDoorRows
/- The maths of fair fillings: what each user is due is told by itself (unique), nobody has more but at the cost of who has less, no envy, nobody gets less than alone, nobody gets more by a lie. -/
namespace Go.Proofs.YtigokanoflkinaaGreatDoor.Por
set_option linter.unusedVariables false

def sumN (f : Nat → Rat) : Nat → Rat
  | 0 => 0
  | n + 1 => sumN f n + f n

theorem sumN_congr {f g : Nat → Rat} {n : Nat} (h : ∀ i, i < n → f i = g i) : sumN f n = sumN g n := by
  induction n with
  | zero => rfl
  | succ n ih => simp only [sumN]; rw [ih (fun i hi => h i (by omega)), h n (by omega)]
theorem sumN_le {f g : Nat → Rat} {n : Nat} (h : ∀ i, i < n → f i ≤ g i) : sumN f n ≤ sumN g n := by
  induction n with
  | zero => exact Rat.le_refl
  | succ n ih =>
    have h1 := ih (fun i hi => h i (by omega))
    have h2 := h n (by omega)
    simp only [sumN]; grind
theorem sumN_zero {f : Nat → Rat} {n : Nat} (h : ∀ i, i < n → f i = 0) : sumN f n = 0 := by
  induction n with
  | zero => rfl
  | succ n ih => simp only [sumN]; rw [ih (fun i hi => h i (by omega)), h n (by omega)]; grind
theorem sumN_nonneg {f : Nat → Rat} {n : Nat} (h : ∀ i, i < n → 0 ≤ f i) : 0 ≤ sumN f n := by
  have := sumN_le (f := fun _ => 0) h
  rwa [sumN_zero (fun i _ => rfl)] at this
theorem sumN_mul {f : Nat → Rat} {n : Nat} (c : Rat) : sumN (fun i => c * f i) n = c * sumN f n := by
  induction n with
  | zero => simp [sumN]
  | succ n ih => simp only [sumN]; rw [ih]; grind
theorem sumN_add {f g : Nat → Rat} {n : Nat} : sumN (fun i => f i + g i) n = sumN f n + sumN g n := by
  induction n with
  | zero => simp only [sumN]; grind
  | succ n ih => simp only [sumN]; rw [ih]; grind
/-- one part of a sum of parts that are not below 0 is no more than the sum -/
theorem le_sumN {f : Nat → Rat} {n : Nat} (h : ∀ i, i < n → 0 ≤ f i) {i : Nat} (hi : i < n) : f i ≤ sumN f n := by
  induction n with
  | zero => omega
  | succ n ih =>
    simp only [sumN]
    have h1 := sumN_nonneg (f := f) (n := n) (fun i hi => h i (by omega))
    have h2 := h n (by omega)
    by_cases e : i = n
    · subst e; grind
    · have := ih (fun i hi => h i (by omega)) (by omega); grind
/-- if a part is greater, and the sum is not, another part is less -/
theorem sumN_less {f g : Nat → Rat} {n : Nat} (h : sumN f n ≤ sumN g n) {i : Nat} (hi : i < n) (hg : g i < f i) : ∃ j, j < n ∧ f j < g j := by
  induction n with
  | zero => omega
  | succ n ih =>
    simp only [sumN] at h
    by_cases e : f n < g n
    · exact ⟨n, by omega, e⟩
    · by_cases e2 : i = n
      · subst e2
        by_cases hx : ∃ j, j < i ∧ f j < g j
        · obtain ⟨j, h1, h2⟩ := hx; exact ⟨j, by omega, h2⟩
        · exfalso
          have : sumN g i ≤ sumN f i := sumN_le (fun j hj => by
            by_cases h5 : g j ≤ f j
            · exact h5
            · exact absurd ⟨j, hj, by grind⟩ hx)
          grind
      · obtain ⟨j, h1, h2⟩ := ih (by grind) (by omega)
        exact ⟨j, by omega, h2⟩

theorem mul_le_left {a b c : Rat} (h : a ≤ b) (hc : 0 ≤ c) : c * a ≤ c * b := Rat.mul_le_mul_of_nonneg_left h hc
theorem mul_le_right {a b c : Rat} (h : a ≤ b) (hc : 0 ≤ c) : a * c ≤ b * c := Rat.mul_le_mul_of_nonneg_right h hc
theorem inv_nonneg {a : Rat} (h : 0 ≤ a) : 0 ≤ a⁻¹ := by
  by_cases e : a = 0
  · rw [e, Rat.inv_zero]; exact Rat.le_refl
  · have := Rat.inv_pos.2 (show 0 < a by grind); grind
theorem div_nonneg {a b : Rat} (ha : 0 ≤ a) (hb : 0 ≤ b) : 0 ≤ a / b := by
  rw [Rat.div_def]; exact Rat.mul_nonneg ha (inv_nonneg hb)
theorem div_mul {a b : Rat} (hb : b ≠ 0) : a / b * b = a := by grind
theorem le_of_mul {a b c : Rat} (h : a * c ≤ b * c) (hc : 0 < c) : a ≤ b := by
  by_cases e : a ≤ b
  · exact e
  · have := Rat.mul_lt_mul_of_pos_right (a := b) (b := a) (by grind) hc; grind
theorem div_le {a b c : Rat} (hb : 0 < b) (h : a ≤ c * b) : a / b ≤ c := by
  apply le_of_mul (c := b) _ hb
  rw [div_mul (by grind)]; exact h
theorem div_lt_div {a b c : Rat} (h : a < b) (hc : 0 < c) : a / c < b / c := by
  rw [Rat.div_def, Rat.div_def]; exact Rat.mul_lt_mul_of_pos_right h (Rat.inv_pos.2 hc)
/-- pool P of k kinds; n users with demands D, weights W, caps C -/
structure Prob where
  n : Nat
  k : Nat
  P : Nat → Rat
  D : Nat → Nat → Rat
  W : Nat → Rat
  C : Nat → Rat

/-- amounts, demands and caps are not below 0, weights above 0 -/
structure Prob.Ok (p : Prob) : Prop where
  P0 : ∀ r, r < p.k → 0 ≤ p.P r
  D0 : ∀ i r, i < p.n → r < p.k → 0 ≤ p.D i r
  W0 : ∀ i, i < p.n → 0 < p.W i
  C0 : ∀ i, i < p.n → 0 ≤ p.C i

/-- g i: the tasks of user i by the level 1 -/
structure Rate (p : Prob) (g : Nat → Rat) : Prop where
  pos : ∀ i, i < p.n → 0 ≤ g i
  le : ∀ i r, i < p.n → r < p.k → 0 < p.D i r → g i * p.D i r ≤ p.W i * p.P r
  eq : ∀ i, i < p.n → ∃ r, r < p.k ∧ 0 < p.D i r ∧ g i * p.D i r = p.W i * p.P r

def used (p : Prob) (x : Nat → Rat) (r : Nat) : Rat := sumN (fun i => x i * p.D i r) p.n

structure Borne (p : Prob) (x : Nat → Rat) : Prop where
  low : ∀ i, i < p.n → 0 ≤ x i
  cap : ∀ i, i < p.n → x i ≤ p.C i
  pool : ∀ r, r < p.k → used p x r ≤ p.P r

/-- kind r holds user i -/
def Held (p : Prob) (g x : Nat → Rat) (i r : Nat) : Prop := 0 < p.D i r ∧ used p x r = p.P r ∧ ∀ j, j < p.n → 0 < p.D j r → x j / g j ≤ x i / g i

structure FairFill (p : Prob) (g x : Nat → Rat) : Prop extends Borne p x where
  none : ∀ i, i < p.n → g i = 0 → x i = 0
  stop : ∀ i, i < p.n → x i = p.C i ∨ ∃ r, r < p.k ∧ Held p g x i r

theorem lev_nonneg {p : Prob} {g x : Nat → Rat} (hg : Rate p g) (hx : Borne p x) {i : Nat} (hi : i < p.n) : 0 ≤ x i / g i := div_nonneg (hx.low i hi) (hg.pos i hi)
theorem lev_mul {p : Prob} {g x : Nat → Rat} (hx : FairFill p g x) {i : Nat} (hi : i < p.n) : x i / g i * g i = x i := by
  by_cases h : g i = 0
  · rw [h, hx.none i hi h]; simp
  · exact div_mul h

theorem rate_zero {p : Prob} (ho : p.Ok) {g : Nat → Rat} (hg : Rate p g) {i r : Nat} (hi : i < p.n) (hr : r < p.k) (hD : 0 < p.D i r) (hP : p.P r = 0) : g i = 0 := by
  have h1 := hg.le i r hi hr hD
  have h2 := hg.pos i hi
  rw [hP] at h1
  have h3 : p.W i * 0 = 0 := by grind
  rw [h3] at h1
  by_cases h : g i = 0
  · exact h
  · have := Rat.mul_pos (a := g i) (b := p.D i r) (by grind) hD; grind

/-- FAIR: whoever has more of another sharing has it at the cost of somebody who has less, at no greater level -/
theorem fair {p : Prob} (ho : p.Ok) {g x y : Nat → Rat} (hx : FairFill p g x) (hy : Borne p y) {i : Nat} (hi : i < p.n) (h : x i < y i) :
    ∃ j, j < p.n ∧ y j < x j ∧ x j / g j ≤ x i / g i := by
  rcases hx.stop i hi with e | ⟨r, hr, hD, hu, hl⟩
  · have := hy.cap i hi; grind
  · have h1 := hy.pool r hr
    rw [← hu] at h1
    have h2 : x i * p.D i r < y i * p.D i r := Rat.mul_lt_mul_of_pos_right h hD
    obtain ⟨j, hj, h3⟩ := sumN_less h1 hi h2
    have hDj : 0 < p.D j r := by
      have := ho.D0 j r hj hr
      by_cases e : p.D j r = 0
      · rw [e] at h3; grind
      · grind
    refine ⟨j, hj, ?_, hl j hj hDj⟩
    by_cases e : y j < x j
    · exact e
    · have := mul_le_right (a := x j) (b := y j) (c := p.D j r) (by grind) (by grind); grind

/-- a least one -/
theorem exists_least (S : Nat → Prop) (f : Nat → Rat) (n : Nat) (h : ∃ i, i < n ∧ S i) : ∃ i, i < n ∧ S i ∧ ∀ j, j < n → S j → f i ≤ f j := by
  classical
  induction n with
  | zero => obtain ⟨i, hi, _⟩ := h; omega
  | succ n ih =>
    by_cases h1 : ∃ i, i < n ∧ S i
    · obtain ⟨i, hi, hs, hm⟩ := ih h1
      by_cases h2 : S n ∧ f n < f i
      · refine ⟨n, by omega, h2.1, fun j hj hs' => ?_⟩
        by_cases e : j = n
        · subst e; exact Rat.le_refl
        · have := hm j (by omega) hs'; grind
      · refine ⟨i, by omega, hs, fun j hj hs' => ?_⟩
        by_cases e : j = n
        · subst e
          by_cases h3 : f j < f i
          · exact absurd ⟨hs', h3⟩ h2
          · grind
        · exact hm j (by omega) hs'
    · obtain ⟨i, hi, hs⟩ := h
      have e : i = n := by
        by_cases e : i = n
        · exact e
        · exact absurd ⟨i, by omega, hs⟩ h1
      subst e
      refine ⟨i, by omega, hs, fun j hj hs' => ?_⟩
      by_cases e : j = i
      · subst e; exact Rat.le_refl
      · exact absurd ⟨j, by omega, hs'⟩ h1

theorem lev_lt {p : Prob} {g x y : Nat → Rat} (hg : Rate p g) (hx : FairFill p g x) (hy : FairFill p g y) {i : Nat} (hi : i < p.n) (h : x i < y i) : x i / g i < y i / g i := by
  have h0 := hg.pos i hi
  have h1 : g i ≠ 0 := fun e => by
    have a := hx.none i hi e; have b := hy.none i hi e; grind
  exact div_lt_div h (by grind)

/-- THERE IS ONE ONLY -/
theorem unique {p : Prob} (ho : p.Ok) {g x y : Nat → Rat} (hg : Rate p g) (hx : FairFill p g x) (hy : FairFill p g y) : ∀ i, i < p.n → x i = y i := by
  classical
  intro i0 hi0
  by_cases hne : x i0 = y i0
  · exact hne
  · exfalso
    obtain ⟨i, hi, hs, hm⟩ := exists_least (fun i => x i ≠ y i) (fun i => if x i < y i then x i / g i else y i / g i) p.n ⟨i0, hi0, hne⟩
    by_cases h : x i < y i
    · obtain ⟨j, hj, h1, h2⟩ := fair ho hx hy.toBorne hi h
      have h3 := hm j hj (by grind)
      have h4 := lev_lt hg hy hx hj h1
      simp only [h, if_true] at h3
      rw [if_neg (by grind)] at h3
      grind
    · obtain ⟨j, hj, h1, h2⟩ := fair ho hy hx.toBorne hi (by grind)
      have h3 := hm j hj (by grind)
      have h4 := lev_lt hg hx hy hj h1
      simp only [h1, if_true] at h3
      rw [if_neg h] at h3
      grind

theorem part_le {p : Prob} {g x : Nat → Rat} (ho : p.Ok) (hg : Rate p g) (hx : FairFill p g x) {j r : Nat} (hj : j < p.n) (hr : r < p.k) : x j * p.D j r ≤ x j / g j * (p.W j * p.P r) := by
  have hl := lev_nonneg hg hx.toBorne hj
  have hP := ho.P0 r hr
  have hW := ho.W0 j hj
  by_cases hD : 0 < p.D j r
  · have h1 := hg.le j r hj hr hD
    have h2 := mul_le_left h1 hl
    have h3 := lev_mul hx hj
    calc x j * p.D j r = (x j / g j * g j) * p.D j r := by rw [h3]
      _ = x j / g j * (g j * p.D j r) := by grind
      _ ≤ _ := h2
  · have : p.D j r = 0 := by have := ho.D0 j r hj hr; grind
    rw [this]
    have := Rat.mul_nonneg hl (Rat.mul_nonneg (a := p.W j) (b := p.P r) (by grind) hP)
    grind

/-- NOBODY GETS LESS than out of its weight's part of the pool -/
theorem alone {p : Prob} {g x : Nat → Rat} (ho : p.Ok) (hg : Rate p g) (hx : FairFill p g x) {i : Nat} (hi : i < p.n) :
    p.C i ≤ x i ∨ ∃ r, r < p.k ∧ 0 < p.D i r ∧ p.P r * p.W i / sumN p.W p.n / p.D i r ≤ x i := by
  have hS : 0 < sumN p.W p.n := by
    have h1 := le_sumN (f := p.W) (n := p.n) (fun j hj => by have := ho.W0 j hj; grind) hi
    have h2 := ho.W0 i hi; grind
  rcases hx.stop i hi with e | ⟨r, hr, hD, hu, hl⟩
  · left; grind
  · right
    have hxi := hx.low i hi
    by_cases hP : p.P r = 0
    · refine ⟨r, hr, hD, ?_⟩
      rw [hP]
      have e2 : 0 * p.W i / sumN p.W p.n / p.D i r = 0 := by rw [Rat.div_def, Rat.div_def]; grind
      rw [e2]; exact hxi
    · have hP0 : 0 < p.P r := by have := ho.P0 r hr; grind
      obtain ⟨s, hs, hDs, he⟩ := hg.eq i hi
      refine ⟨s, hs, hDs, ?_⟩
      have hle : used p x r ≤ sumN (fun j => x i / g i * p.P r * p.W j) p.n := by
        apply sumN_le
        intro j hj
        have hWj := ho.W0 j hj
        by_cases hDj : 0 < p.D j r
        · have h1 := part_le ho hg hx hj hr
          have h2 := mul_le_right (hl j hj hDj) (Rat.mul_nonneg (a := p.W j) (b := p.P r) (by grind) (by grind))
          have : x i / g i * p.P r * p.W j = x i / g i * (p.W j * p.P r) := by grind
          rw [this]; exact Rat.le_trans h1 h2
        · have e : p.D j r = 0 := by have := ho.D0 j r hj hr; grind
          simp only [e]
          have h5 := lev_nonneg hg hx.toBorne hi
          have := Rat.mul_nonneg (Rat.mul_nonneg h5 (show 0 ≤ p.P r by grind)) (show 0 ≤ p.W j by grind)
          grind
      rw [hu, sumN_mul] at hle
      have h1 : 1 ≤ x i / g i * sumN p.W p.n := by
        apply le_of_mul (c := p.P r) _ hP0
        grind
      apply div_le hDs
      apply div_le hS
      have h3 := lev_mul hx hi
      have h4 := mul_le_right h1 (Rat.mul_nonneg (hg.pos i hi) (show 0 ≤ p.D i s by grind))
      have h5 : x i / g i * sumN p.W p.n * (g i * p.D i s) = x i * p.D i s * sumN p.W p.n := by
        calc _ = (x i / g i * g i) * p.D i s * sumN p.W p.n := by grind
          _ = _ := by rw [h3]
      rw [h5] at h4
      grind

end Go.Proofs.YtigokanoflkinaaGreatDoor.Por

/- What users are due has one denominator, which is not too great. -/
namespace Go.Proofs.YtigokanoflkinaaGreatDoor.Por
set_option linter.unusedVariables false

def isInt (q : Rat) : Prop := ∃ z : Int, q = (z : Rat)
theorem isInt.add {a b : Rat} (ha : isInt a) (hb : isInt b) : isInt (a + b) := by
  obtain ⟨x, rfl⟩ := ha; obtain ⟨y, rfl⟩ := hb
  exact ⟨x + y, by rw [Rat.intCast_add]⟩
theorem isInt.sub {a b : Rat} (ha : isInt a) (hb : isInt b) : isInt (a - b) := by
  obtain ⟨x, rfl⟩ := ha; obtain ⟨y, rfl⟩ := hb
  exact ⟨x - y, by rw [Rat.intCast_sub]⟩
theorem isInt.mul {a b : Rat} (ha : isInt a) (hb : isInt b) : isInt (a * b) := by
  obtain ⟨x, rfl⟩ := ha; obtain ⟨y, rfl⟩ := hb
  exact ⟨x * y, by rw [Rat.intCast_mul]⟩
theorem isInt.nat (n : Nat) : isInt (n : Rat) := ⟨(n : Int), by rfl⟩
theorem isInt.zero : isInt 0 := ⟨0, rfl⟩
theorem isInt.sum {f : Nat → Rat} {n : Nat} (h : ∀ i, i < n → isInt (f i)) : isInt (sumN f n) := by
  induction n with
  | zero => exact isInt.zero
  | succ n ih => exact (ih (fun i hi => h i (by omega))).add (h n (by omega))
theorem isInt.toNat {a : Rat} (ha : isInt a) (h0 : 0 ≤ a) : ∃ n : Nat, a = (n : Rat) := by
  obtain ⟨z, rfl⟩ := ha
  have h1 : (0 : Int) ≤ z := Rat.intCast_nonneg.1 h0
  obtain ⟨n, rfl⟩ := Int.eq_ofNat_of_zero_le h1
  exact ⟨n, rfl⟩

noncomputable def cnt (S : Nat → Prop) : Nat → Nat
  | 0 => 0
  | k + 1 => cnt S k + (open Classical in if S k then 1 else 0)
theorem cnt_le (S : Nat → Prop) (k : Nat) : cnt S k ≤ k := by
  induction k with
  | zero => exact Nat.le_refl _
  | succ k ih => simp only [cnt]; split <;> omega
theorem cnt_mono {S T : Nat → Prop} (h : ∀ r, S r → T r) (k : Nat) : cnt S k ≤ cnt T k := by
  induction k with
  | zero => exact Nat.le_refl _
  | succ k ih =>
    simp only [cnt]
    by_cases e : S k
    · rw [if_pos e, if_pos (h k e)]; omega
    · rw [if_neg e]; omega
theorem cnt_lt {S T : Nat → Prop} (h : ∀ r, S r → T r) {k r0 : Nat} (hr : r0 < k) (h1 : T r0) (h2 : ¬ S r0) : cnt S k < cnt T k := by
  induction k with
  | zero => omega
  | succ k ih =>
    simp only [cnt]
    by_cases e : r0 = k
    · subst e
      rw [if_pos h1, if_neg h2]
      have := cnt_mono h r0; omega
    · have := ih (by omega)
      by_cases e : S k
      · rw [if_pos e, if_pos (h k e)]; omega
      · rw [if_neg e]; omega

end Go.Proofs.YtigokanoflkinaaGreatDoor.Por

/- How a filling goes on: what stays true while the level rises. -/
namespace Go.Proofs.YtigokanoflkinaaGreatDoor.Por
set_option linter.unusedVariables false

/-- where the users stand: the level, by how much each grows (0: it is stopped), what each has, and at which level -/
structure St where
  lev : Rat
  rt : Nat → Rat
  ts : Nat → Rat
  lv : Nat → Rat

structure Inv (p : Prob) (g : Nat → Rat) (s : St) : Prop where
  lev0 : 0 ≤ s.lev
  grow : ∀ i, i < p.n → s.rt i ≠ 0 → s.rt i = g i ∧ s.ts i = g i * s.lev ∧ s.lv i = s.lev
  lvs : ∀ i, i < p.n → s.ts i = g i * s.lv i ∧ 0 ≤ s.lv i ∧ s.lv i ≤ s.lev ∧ (g i = 0 → s.lv i = 0 ∧ s.rt i = 0)
  stop : ∀ i, i < p.n → s.rt i = 0 → s.ts i = p.C i ∨ ∃ r, r < p.k ∧ 0 < p.D i r ∧ used p s.ts r = p.P r ∧ ∀ j, j < p.n → 0 < p.D j r → s.rt j = 0 ∧ s.lv j ≤ s.lv i
  borne : Borne p s.ts

/-- what each has when the level has risen to l -/
def tsAt (g : Nat → Rat) (s : St) (l : Rat) : Nat → Rat := fun i => if s.rt i = 0 then s.ts i else g i * l
def lvAt (s : St) (l : Rat) : Nat → Rat := fun i => if s.rt i = 0 then s.lv i else l

/-- the level rises to l; who then has its cap or wants what is used up stops -/
theorem Inv.step {p : Prob} {g : Nat → Rat} (ho : p.Ok) (hg : Rate p g) {s : St} (h : Inv p g s) (l : Rat) (hl : s.lev ≤ l) (hb : Borne p (tsAt g s l)) (rt' : Nat → Rat)
    (hr0 : ∀ i, i < p.n → s.rt i = 0 → rt' i = 0)
    (hr : ∀ i, i < p.n → s.rt i ≠ 0 → (rt' i = 0 ∧ (tsAt g s l i = p.C i ∨ ∃ r, r < p.k ∧ 0 < p.D i r ∧ used p (tsAt g s l) r = p.P r)) ∨ (rt' i = s.rt i ∧ ¬ (tsAt g s l i = p.C i ∨ ∃ r, r < p.k ∧ 0 < p.D i r ∧ used p (tsAt g s l) r = p.P r))) :
    Inv p g ⟨l, rt', tsAt g s l, lvAt s l⟩ := by
  refine ⟨by have := h.lev0; grind, ?_, ?_, ?_, hb⟩
  · intro i hi hne
    show rt' i = g i ∧ tsAt g s l i = g i * l ∧ lvAt s l i = l
    have h0 : s.rt i ≠ 0 := fun e => hne (hr0 i hi e)
    rcases hr i hi h0 with ⟨e, _⟩ | ⟨e, _⟩
    · exact absurd e hne
    · refine ⟨by rw [e]; exact (h.grow i hi h0).1, ?_, ?_⟩
      · unfold tsAt; rw [if_neg h0]
      · unfold lvAt; rw [if_neg h0]
  · intro i hi
    show tsAt g s l i = g i * lvAt s l i ∧ 0 ≤ lvAt s l i ∧ lvAt s l i ≤ l ∧ (g i = 0 → lvAt s l i = 0 ∧ rt' i = 0)
    obtain ⟨h1, h2, h3, h4⟩ := h.lvs i hi
    have h5 := h.lev0
    by_cases e : s.rt i = 0
    · unfold tsAt lvAt
      rw [if_pos e, if_pos e]
      exact ⟨h1, h2, by grind, fun h0 => ⟨(h4 h0).1, hr0 i hi e⟩⟩
    · unfold tsAt lvAt
      rw [if_neg e, if_neg e]
      exact ⟨rfl, by grind, Rat.le_refl, fun h0 => absurd (h4 h0).2 e⟩
  · intro i hi e
    show tsAt g s l i = p.C i ∨ ∃ r, r < p.k ∧ 0 < p.D i r ∧ used p (tsAt g s l) r = p.P r ∧ ∀ j, j < p.n → 0 < p.D j r → rt' j = 0 ∧ lvAt s l j ≤ lvAt s l i
    by_cases e0 : s.rt i = 0
    · rcases h.stop i hi e0 with h1 | ⟨r, hrk, hD, hu, hj⟩
      · left; unfold tsAt; rw [if_pos e0]; exact h1
      · right
        refine ⟨r, hrk, hD, ?_, ?_⟩
        · rw [← hu]
          apply sumN_congr
          intro j hjn
          show tsAt g s l j * p.D j r = s.ts j * p.D j r
          by_cases hDj : 0 < p.D j r
          · unfold tsAt; rw [if_pos (hj j hjn hDj).1]
          · have : p.D j r = 0 := by have := ho.D0 j r hjn hrk; grind
            rw [this, Rat.mul_zero, Rat.mul_zero]
        · intro j hjn hDj
          obtain ⟨h1, h2⟩ := hj j hjn hDj
          refine ⟨hr0 j hjn h1, ?_⟩
          unfold lvAt; rw [if_pos h1, if_pos e0]; exact h2
    · rcases hr i hi e0 with ⟨_, h1⟩ | ⟨h1, _⟩
      · rcases h1 with h1 | ⟨r, hrk, hD, hu⟩
        · left; exact h1
        · right
          refine ⟨r, hrk, hD, hu, fun j hjn hDj => ?_⟩
          have hl' : lvAt s l i = l := by unfold lvAt; rw [if_neg e0]
          rw [hl']
          by_cases ej : s.rt j = 0
          · refine ⟨hr0 j hjn ej, ?_⟩
            unfold lvAt; rw [if_pos ej]
            have := (h.lvs j hjn).2.2.1; grind
          · refine ⟨?_, by unfold lvAt; rw [if_neg ej]; exact Rat.le_refl⟩
            rcases hr j hjn ej with ⟨e2, _⟩ | ⟨_, h2⟩
            · exact e2
            · exact absurd (Or.inr ⟨r, hrk, hDj, hu⟩) h2
      · have e' : rt' i = 0 := e
        rw [e'] at h1; exact absurd h1.symm e0

theorem Inv.first {p : Prob} {g : Nat → Rat} (ho : p.Ok) (hg : Rate p g) (rt : Nat → Rat) (h : ∀ i, i < p.n → rt i = g i ∨ (rt i = 0 ∧ p.C i = 0)) : Inv p g ⟨0, rt, fun _ => 0, fun _ => 0⟩ := by
  have hu : ∀ r, used p (fun _ => 0) r = 0 := fun r => sumN_zero (fun i _ => by grind)
  refine ⟨Rat.le_refl, ?_, ?_, ?_, ?_⟩
  · intro i hi hne
    show rt i = g i ∧ (0 : Rat) = g i * 0 ∧ (0 : Rat) = 0
    rcases h i hi with e | e
    · exact ⟨e, by grind, rfl⟩
    · exact absurd e.1 hne
  · intro i hi
    refine ⟨by show (0 : Rat) = g i * 0; grind, Rat.le_refl, Rat.le_refl, fun h0 => ⟨rfl, ?_⟩⟩
    show rt i = 0
    rcases h i hi with e | e
    · rw [e]; exact h0
    · exact e.1
  · intro i hi e
    show (0 : Rat) = p.C i ∨ ∃ r, r < p.k ∧ 0 < p.D i r ∧ used p (fun _ => 0) r = p.P r ∧ ∀ j, j < p.n → 0 < p.D j r → rt j = 0 ∧ (0 : Rat) ≤ 0
    have e' : rt i = 0 := e
    rcases h i hi with h1 | h1
    · right
      have hg0 : g i = 0 := by rw [← h1]; exact e'
      obtain ⟨r, hr, hD, he⟩ := hg.eq i hi
      rw [hg0] at he
      have hW := ho.W0 i hi
      have hP : p.P r = 0 := by
        by_cases e5 : p.P r = 0
        · exact e5
        · have := Rat.mul_pos hW (show 0 < p.P r by have := ho.P0 r hr; grind); grind
      refine ⟨r, hr, hD, by rw [hu, hP], fun j hj hDj => ⟨?_, Rat.le_refl⟩⟩
      have := rate_zero ho hg hj hr hDj hP
      rcases h j hj with e5 | e5
      · rw [e5]; exact this
      · exact e5.1
    · left; exact h1.2.symm
  · exact ⟨fun i hi => Rat.le_refl, fun i hi => ho.C0 i hi, fun r hr => by
      show used p (fun _ => 0) r ≤ p.P r
      rw [hu]; exact ho.P0 r hr⟩

theorem Inv.last {p : Prob} {g : Nat → Rat} {s : St} (hg : Rate p g) (h : Inv p g s) (hz : ∀ i, i < p.n → s.rt i = 0) : FairFill p g s.ts ∧ ∀ i, i < p.n → s.lv i = s.ts i / g i := by
  have hlv : ∀ i, i < p.n → s.lv i = s.ts i / g i := fun i hi => by
    obtain ⟨h1, h2, h3, h4⟩ := h.lvs i hi
    by_cases e : g i = 0
    · rw [(h4 e).1, h1, e, Rat.div_def]; grind
    · rw [h1]; grind
  refine ⟨⟨h.borne, fun i hi e => ?_, fun i hi => ?_⟩, hlv⟩
  · rw [(h.lvs i hi).1, e]; grind
  · rcases h.stop i hi (hz i hi) with h1 | ⟨r, hr, hD, hu, hj⟩
    · left; exact h1
    · right
      refine ⟨r, hr, hD, hu, fun j hjn hDj => ?_⟩
      rw [← hlv j hjn, ← hlv i hi]
      exact (hj j hjn hDj).2

/-- what is used when the level has risen -/
theorem used_at {p : Prob} {g : Nat → Rat} {s : St} (h : Inv p g s) (d : Rat) (r : Nat) : used p (tsAt g s (s.lev + d)) r = used p s.ts r + d * used p s.rt r := by
  unfold used
  rw [← sumN_mul, ← sumN_add]
  apply sumN_congr
  intro i hi
  show tsAt g s (s.lev + d) i * p.D i r = s.ts i * p.D i r + d * (s.rt i * p.D i r)
  unfold tsAt
  by_cases e : s.rt i = 0
  · rw [if_pos e, e]; grind
  · rw [if_neg e]
    obtain ⟨h1, h2, h3⟩ := h.grow i hi e
    rw [h1, h2]; grind

theorem ts_at {p : Prob} {g : Nat → Rat} {s : St} (h : Inv p g s) (d : Rat) {i : Nat} (hi : i < p.n) : tsAt g s (s.lev + d) i = s.ts i + s.rt i * d := by
  unfold tsAt
  by_cases e : s.rt i = 0
  · rw [if_pos e, e]; grind
  · rw [if_neg e]
    obtain ⟨h1, h2, h3⟩ := h.grow i hi e
    rw [h1, h2]; grind

theorem rt_nonneg {p : Prob} {g : Nat → Rat} (hg : Rate p g) {s : St} (h : Inv p g s) {i : Nat} (hi : i < p.n) : 0 ≤ s.rt i := by
  by_cases e : s.rt i = 0
  · rw [e]; exact Rat.le_refl
  · rw [(h.grow i hi e).1]; exact hg.pos i hi

theorem speed_nonneg {p : Prob} {g : Nat → Rat} (ho : p.Ok) (hg : Rate p g) {s : St} (h : Inv p g s) {r : Nat} (hr : r < p.k) : 0 ≤ used p s.rt r :=
  sumN_nonneg (fun i hi => Rat.mul_nonneg (rt_nonneg hg h hi) (ho.D0 i r hi hr))

/-- the least way that the level rises till something stops -/
structure Least (p : Prob) (s : St) (d : Rat) : Prop where
  caps : ∀ i, i < p.n → s.rt i ≠ 0 → d * s.rt i ≤ p.C i - s.ts i
  kinds : ∀ r, r < p.k → used p s.rt r ≠ 0 → d * used p s.rt r ≤ p.P r - used p s.ts r
  some : (∃ i, i < p.n ∧ s.rt i ≠ 0 ∧ d * s.rt i = p.C i - s.ts i) ∨ (∃ r, r < p.k ∧ used p s.rt r ≠ 0 ∧ d * used p s.rt r = p.P r - used p s.ts r)

theorem Least.pos {p : Prob} {g : Nat → Rat} (ho : p.Ok) (hg : Rate p g) {s : St} (h : Inv p g s) {d : Rat} (hd : Least p s d) : 0 ≤ d := by
  rcases hd.some with ⟨i, hi, hne, he⟩ | ⟨r, hr, hne, he⟩
  · have h1 := rt_nonneg hg h hi
    have h2 := h.borne.cap i hi
    apply le_of_mul (c := s.rt i) _ (by grind)
    grind
  · have h1 := speed_nonneg ho hg h hr
    have h2 := h.borne.pool r hr
    apply le_of_mul (c := used p s.rt r) _ (by grind)
    grind

theorem Least.borne {p : Prob} {g : Nat → Rat} (ho : p.Ok) (hg : Rate p g) {s : St} (h : Inv p g s) {d : Rat} (hd : Least p s d) : Borne p (tsAt g s (s.lev + d)) := by
  have h0 := hd.pos ho hg h
  refine ⟨fun i hi => ?_, fun i hi => ?_, fun r hr => ?_⟩
  · rw [ts_at h d hi]
    have h1 := h.borne.low i hi
    have h2 := Rat.mul_nonneg (rt_nonneg hg h hi) h0
    grind
  · rw [ts_at h d hi]
    by_cases e : s.rt i = 0
    · rw [e]; have := h.borne.cap i hi; grind
    · have := hd.caps i hi e; grind
  · rw [used_at h d r]
    by_cases e : used p s.rt r = 0
    · rw [e]; have := h.borne.pool r hr; grind
    · have := hd.kinds r hr e; grind

/-- somebody stops -/
theorem Least.stops {p : Prob} {g : Nat → Rat} (ho : p.Ok) {s : St} (h : Inv p g s) {d : Rat} (hd : Least p s d) :
    ∃ i, i < p.n ∧ s.rt i ≠ 0 ∧ (tsAt g s (s.lev + d) i = p.C i ∨ ∃ r, r < p.k ∧ 0 < p.D i r ∧ used p (tsAt g s (s.lev + d)) r = p.P r) := by
  rcases hd.some with ⟨i, hi, hne, he⟩ | ⟨r, hr, hne, he⟩
  · refine ⟨i, hi, hne, Or.inl ?_⟩
    rw [ts_at h d hi]; grind
  · have : ∃ i, i < p.n ∧ s.rt i * p.D i r ≠ 0 := by
      apply Classical.byContradiction
      intro hn
      apply hne
      apply sumN_zero
      intro i hi
      apply Classical.byContradiction
      intro h5
      exact hn ⟨i, hi, h5⟩
    obtain ⟨i, hi, h5⟩ := this
    have h6 : s.rt i ≠ 0 := fun e => h5 (by rw [e, Rat.zero_mul])
    have h7 : p.D i r ≠ 0 := fun e => h5 (by rw [e, Rat.mul_zero])
    refine ⟨i, hi, h6, Or.inr ⟨r, hr, by have := ho.D0 i r hi hr; grind, ?_⟩⟩
    rw [used_at h d r]; grind
end Go.Proofs.YtigokanoflkinaaGreatDoor.Por

/- How the program lets the level rise: a rise stops somebody, and in the end all are stopped. -/
namespace Go.Proofs.YtigokanoflkinaaGreatDoor.Por
set_option linter.unusedVariables false

def rq (l : List Rat) (i : Nat) : Rat := l.getD i 0
/-- the least of the first m, by looking through them -/
def leastN (l : List Rat) : Nat → Rat
  | 0 => rq l 0
  | m + 1 => if rq l m < leastN l m then rq l m else leastN l m
def leastL (l : List Rat) : Rat := leastN l l.length

theorem leastN_le (l : List Rat) (m : Nat) : ∀ i, i < m → leastN l m ≤ rq l i := by
  induction m with
  | zero => intro i hi; omega
  | succ m ih =>
    intro i hi
    simp only [leastN]
    by_cases e : i = m
    · subst e; split <;> grind
    · have := ih i (by omega)
      split <;> grind
theorem leastN_mem (l : List Rat) (m : Nat) (hm : m ≤ l.length) (h0 : 0 < l.length) : ∃ i, i < l.length ∧ leastN l m = rq l i := by
  induction m with
  | zero => exact ⟨0, h0, rfl⟩
  | succ m ih =>
    simp only [leastN]
    split
    · exact ⟨m, by omega, rfl⟩
    · exact ih (by omega)
theorem rq_mem {l : List Rat} {i : Nat} (h : i < l.length) : rq l i ∈ l := by
  unfold rq
  rw [List.getD_eq_getElem?_getD, List.getElem?_eq_getElem h]
  exact List.getElem_mem h
theorem mem_rq {l : List Rat} {v : Rat} (h : v ∈ l) : ∃ i, i < l.length ∧ rq l i = v := by
  obtain ⟨i, hi, e⟩ := List.getElem_of_mem h
  refine ⟨i, hi, ?_⟩
  unfold rq
  rw [List.getD_eq_getElem?_getD, List.getElem?_eq_getElem hi]
  exact e
theorem leastL_le {l : List Rat} {v : Rat} (h : v ∈ l) : leastL l ≤ v := by
  obtain ⟨i, hi, e⟩ := mem_rq h
  rw [← e]; exact leastN_le l _ i hi
theorem leastL_mem {l : List Rat} (h : l ≠ []) : leastL l ∈ l := by
  have h0 : 0 < l.length := List.length_pos_iff.2 h
  obtain ⟨i, hi, e⟩ := leastN_mem l l.length (Nat.le_refl _) h0
  unfold leastL
  rw [e]; exact rq_mem hi

/-- by how much the level must rise for each cap, for each kind -/
def stU (p : Prob) (s : St) : Nat → List Rat
  | 0 => []
  | i + 1 => if s.rt i = 0 then stU p s i else stU p s i ++ [(p.C i - s.ts i) / s.rt i]
def stK (p : Prob) (s : St) (l : List Rat) : Nat → List Rat
  | 0 => l
  | r + 1 => if used p s.rt r = 0 then stK p s l r else stK p s l r ++ [(p.P r - used p s.ts r) / used p s.rt r]
def stepsL (p : Prob) (s : St) : List Rat := stK p s (stU p s p.n) p.k

theorem mem_stU {p : Prob} {s : St} {v : Rat} : ∀ n, v ∈ stU p s n ↔ ∃ i, i < n ∧ s.rt i ≠ 0 ∧ v = (p.C i - s.ts i) / s.rt i := by
  intro n
  induction n with
  | zero => simp [stU]
  | succ n ih =>
    simp only [stU]
    split
    · rename_i e
      rw [ih]
      constructor
      · rintro ⟨i, h1, h2⟩; exact ⟨i, by omega, h2⟩
      · rintro ⟨i, h1, h2, h3⟩
        by_cases e2 : i = n
        · subst e2; exact absurd e h2
        · exact ⟨i, by omega, h2, h3⟩
    · rename_i e
      rw [List.mem_append, ih, List.mem_singleton]
      constructor
      · rintro (⟨i, h1, h2⟩ | h)
        · exact ⟨i, by omega, h2⟩
        · exact ⟨n, by omega, e, h⟩
      · rintro ⟨i, h1, h2, h3⟩
        by_cases e2 : i = n
        · subst e2; exact Or.inr h3
        · exact Or.inl ⟨i, by omega, h2, h3⟩
theorem mem_stK {p : Prob} {s : St} {l : List Rat} {v : Rat} : ∀ n, v ∈ stK p s l n ↔ v ∈ l ∨ ∃ r, r < n ∧ used p s.rt r ≠ 0 ∧ v = (p.P r - used p s.ts r) / used p s.rt r := by
  intro n
  induction n with
  | zero => simp [stK]
  | succ n ih =>
    simp only [stK]
    split
    · rename_i e
      rw [ih]
      constructor
      · rintro (h | ⟨i, h1, h2⟩)
        · exact Or.inl h
        · exact Or.inr ⟨i, by omega, h2⟩
      · rintro (h | ⟨i, h1, h2, h3⟩)
        · exact Or.inl h
        · by_cases e2 : i = n
          · subst e2; exact absurd e h2
          · exact Or.inr ⟨i, by omega, h2, h3⟩
    · rename_i e
      rw [List.mem_append, ih, List.mem_singleton]
      constructor
      · rintro ((h | ⟨i, h1, h2⟩) | h)
        · exact Or.inl h
        · exact Or.inr ⟨i, by omega, h2⟩
        · exact Or.inr ⟨n, by omega, e, h⟩
      · rintro (h | ⟨i, h1, h2, h3⟩)
        · exact Or.inl (Or.inl h)
        · by_cases e2 : i = n
          · subst e2; exact Or.inr h3
          · exact Or.inl (Or.inr ⟨i, by omega, h2, h3⟩)

theorem steps_nil {p : Prob} {s : St} (h : stepsL p s = []) : ∀ i, i < p.n → s.rt i = 0 := by
  intro i hi
  apply Classical.byContradiction
  intro e
  have : (p.C i - s.ts i) / s.rt i ∈ stepsL p s := (mem_stK _).2 (Or.inl ((mem_stU _).2 ⟨i, hi, e, rfl⟩))
  rw [h] at this; cases this

theorem steps_least {p : Prob} {g : Nat → Rat} (ho : p.Ok) (hg : Rate p g) {s : St} (h : Inv p g s) (hne : stepsL p s ≠ []) : Least p s (leastL (stepsL p s)) := by
  refine ⟨fun i hi e => ?_, fun r hr e => ?_, ?_⟩
  · have h1 := leastL_le (l := stepsL p s) ((mem_stK _).2 (Or.inl ((mem_stU _).2 ⟨i, hi, e, rfl⟩)))
    have h2 := mul_le_right h1 (rt_nonneg hg h hi)
    rwa [div_mul e] at h2
  · have h1 := leastL_le (l := stepsL p s) ((mem_stK _).2 (Or.inr ⟨r, hr, e, rfl⟩))
    have h2 := mul_le_right h1 (speed_nonneg ho hg h hr)
    rwa [div_mul e] at h2
  · have h1 := leastL_mem hne
    rcases (mem_stK _).1 h1 with h2 | ⟨r, hr, e, he⟩
    · obtain ⟨i, hi, e, he⟩ := (mem_stU _).1 h2
      left
      exact ⟨i, hi, e, by rw [he, div_mul e]⟩
    · right
      exact ⟨r, hr, e, by rw [he, div_mul e]⟩

/-- what rises, as the program has it -/
def upTs (s : St) (d : Rat) : Nat → Rat := fun i => if s.rt i = 0 then s.ts i else s.ts i + s.rt i * d
def upLv (s : St) (d : Rat) : Nat → Rat := fun i => if s.rt i = 0 then s.lv i else s.lev + d
def stopsB (p : Prob) (ts : Nat → Rat) (i : Nat) : Prop := ts i = p.C i ∨ ∃ r, r < p.k ∧ 0 < p.D i r ∧ used p ts r = p.P r
open Classical in
noncomputable def upRt (p : Prob) (s : St) (d : Rat) : Nat → Rat := fun i => if stopsB p (upTs s d) i then 0 else s.rt i
open Classical in
noncomputable def riseS (p : Prob) (s : St) : St :=
  if stepsL p s = [] then s else ⟨s.lev + leastL (stepsL p s), upRt p s (leastL (stepsL p s)), upTs s (leastL (stepsL p s)), upLv s (leastL (stepsL p s))⟩

theorem used_congr {p : Prob} {x y : Nat → Rat} (h : ∀ i, i < p.n → x i = y i) (r : Nat) : used p x r = used p y r := sumN_congr (fun i hi => by rw [h i hi])

theorem Inv.congr {p : Prob} {g : Nat → Rat} {s t : St} (h : Inv p g s) (hl : t.lev = s.lev) (h1 : ∀ i, i < p.n → t.rt i = s.rt i) (h2 : ∀ i, i < p.n → t.ts i = s.ts i) (h3 : ∀ i, i < p.n → t.lv i = s.lv i) : Inv p g t := by
  refine ⟨by rw [hl]; exact h.lev0, fun i hi => ?_, fun i hi => ?_, fun i hi => ?_, ⟨fun i hi => ?_, fun i hi => ?_, fun r hr => ?_⟩⟩
  · rw [h1 i hi, h2 i hi, h3 i hi, hl]; exact h.grow i hi
  · rw [h1 i hi, h2 i hi, h3 i hi, hl]; exact h.lvs i hi
  · rw [h1 i hi, h2 i hi, h3 i hi]
    intro e
    rcases h.stop i hi e with h5 | ⟨r, hr, hD, hu, hj⟩
    · left; exact h5
    · right
      refine ⟨r, hr, hD, by rw [used_congr h2]; exact hu, fun j hjn hDj => ?_⟩
      rw [h1 j hjn, h3 j hjn]; exact hj j hjn hDj
  · rw [h2 i hi]; exact h.borne.low i hi
  · rw [h2 i hi]; exact h.borne.cap i hi
  · rw [used_congr h2]; exact h.borne.pool r hr

theorem stopsB_congr {p : Prob} {x y : Nat → Rat} (h : ∀ i, i < p.n → x i = y i) {i : Nat} (hi : i < p.n) : stopsB p x i ↔ stopsB p y i := by
  unfold stopsB
  rw [h i hi]
  constructor
  · rintro (h1 | ⟨r, h2, h3, h4⟩)
    · exact Or.inl h1
    · exact Or.inr ⟨r, h2, h3, by rw [← used_congr h]; exact h4⟩
  · rintro (h1 | ⟨r, h2, h3, h4⟩)
    · exact Or.inl h1
    · exact Or.inr ⟨r, h2, h3, by rw [used_congr h]; exact h4⟩

theorem up_at {p : Prob} {g : Nat → Rat} {s : St} (h : Inv p g s) (d : Rat) : ∀ i, i < p.n → upTs s d i = tsAt g s (s.lev + d) i := by
  intro i hi
  rw [ts_at h d hi]
  unfold upTs
  split
  · rename_i e; rw [e]; grind
  · rfl

theorem rise_inv {p : Prob} {g : Nat → Rat} (ho : p.Ok) (hg : Rate p g) {s : St} (h : Inv p g s) : Inv p g (riseS p s) := by
  classical
  unfold riseS
  split
  · exact h
  · rename_i hne
    have hd := steps_least ho hg h hne
    generalize leastL (stepsL p s) = d at hd
    have h0 := hd.pos ho hg h
    have hst := h.step ho hg (s.lev + d) (by grind) (hd.borne ho hg h) (upRt p s d)
      (fun i hi e => by unfold upRt; split; rfl; exact e)
      (fun i hi e => by
        have hc := stopsB_congr (up_at h d) hi
        unfold upRt
        by_cases e2 : stopsB p (upTs s d) i
        · left; exact ⟨if_pos e2, hc.1 e2⟩
        · right; exact ⟨if_neg e2, fun h5 => e2 (hc.2 h5)⟩)
    exact hst.congr rfl (fun i hi => rfl) (up_at h d) (fun i hi => rfl)

/-- each rise stops somebody -/
theorem rise_cnt {p : Prob} {g : Nat → Rat} (ho : p.Ok) (hg : Rate p g) {s : St} (h : Inv p g s) : (∀ i, i < p.n → (riseS p s).rt i = 0) ∨ cnt (fun i => (riseS p s).rt i ≠ 0) p.n < cnt (fun i => s.rt i ≠ 0) p.n := by
  classical
  by_cases hne : stepsL p s = []
  · left
    unfold riseS
    rw [if_pos hne]
    exact steps_nil hne
  · right
    have e : (riseS p s).rt = upRt p s (leastL (stepsL p s)) := by unfold riseS; rw [if_neg hne]
    rw [e]
    have hd := steps_least ho hg h hne
    generalize leastL (stepsL p s) = d at hd
    obtain ⟨i, hi, h1, h2⟩ := hd.stops ho h
    apply cnt_lt (r0 := i) _ hi h1
    · intro h5
      apply h5
      have hc := stopsB_congr (up_at h d) hi
      unfold upRt
      exact if_pos (hc.2 h2)
    · intro j h5 h6
      apply h5
      unfold upRt
      split
      · rfl
      · exact h6

noncomputable def risesN (p : Prob) (s : St) : Nat → St
  | 0 => s
  | m + 1 => riseS p (risesN p s m)

theorem rises_inv {p : Prob} {g : Nat → Rat} (ho : p.Ok) (hg : Rate p g) {s : St} (h : Inv p g s) : ∀ m, Inv p g (risesN p s m) := by
  intro m
  induction m with
  | zero => exact h
  | succ m ih => exact rise_inv ho hg ih
theorem cnt_zero {S : Nat → Prop} {k : Nat} (h : cnt S k = 0) : ∀ i, i < k → ¬ S i := by
  intro i hi hs
  have := cnt_lt (S := fun _ => False) (T := S) (fun r h => h.elim) hi hs (fun h => h)
  omega
theorem rises_cnt {p : Prob} {g : Nat → Rat} (ho : p.Ok) (hg : Rate p g) {s : St} (h : Inv p g s) : ∀ m, cnt (fun i => (risesN p s m).rt i ≠ 0) p.n ≤ p.n - m := by
  intro m
  induction m with
  | zero => exact cnt_le _ _
  | succ m ih =>
    rcases rise_cnt ho hg (rises_inv ho hg h m) with h1 | h1
    · have : ∀ k, k ≤ p.n → cnt (fun i => (risesN p s (m + 1)).rt i ≠ 0) k = 0 := by
        intro k hk
        induction k with
        | zero => rfl
        | succ k ihk =>
          simp only [cnt]
          rw [ihk (by omega), if_neg (fun h5 => h5 (h1 k (by omega)))]
      rw [this p.n (Nat.le_refl _)]; omega
    · show cnt (fun i => (riseS p (risesN p s m)).rt i ≠ 0) p.n ≤ p.n - (m + 1)
      omega
/-- when it has risen as often as there are users, nobody grows -/
theorem rises_end {p : Prob} {g : Nat → Rat} (ho : p.Ok) (hg : Rate p g) {s : St} (h : Inv p g s) : ∀ i, i < p.n → (risesN p s p.n).rt i = 0 := by
  intro i hi
  have h1 := rises_cnt ho hg h p.n
  have := cnt_zero (k := p.n) (S := fun i => (risesN p s p.n).rt i ≠ 0) (by omega) i hi
  exact Classical.byContradiction this
end Go.Proofs.YtigokanoflkinaaGreatDoor.Por

/- The denominators while the level rises. -/
namespace Go.Proofs.YtigokanoflkinaaGreatDoor.Por
set_option linter.unusedVariables false

/-- all that is reckoned with has one denominator -/
structure Dens (p : Prob) (s : St) (Q : Nat) : Prop where
  ts : ∀ i, i < p.n → isInt (Q * s.ts i)
  lv : ∀ i, i < p.n → isInt (Q * s.lv i)
  lev : isInt (Q * s.lev)

theorem Dens.rise {p : Prob} {g : Nat → Rat} (ho : p.Ok) (hg : Rate p g) {s : St} (h : Inv p g s)
    (hC : ∀ i, i < p.n → isInt (p.C i)) (hD : ∀ i r, i < p.n → r < p.k → isInt (p.D i r)) (hP : ∀ r, r < p.k → isInt (p.P r))
    (G M : Nat) (hG : 0 < G) (hGg : ∀ i, i < p.n → isInt (G * g i)) (hMr : ∀ r, r < p.k → sumN (fun i => p.W i * p.P r) p.n ≤ M) (hgM : ∀ i, i < p.n → g i ≤ M)
    {Q : Nat} (hQ : Dens p s Q) (hQ0 : 0 < Q) (hM : 0 < M) : ∃ N : Nat, 0 < N ∧ N ≤ G * M ∧ Dens p (riseS p s) (Q * N) := by
  classical
  have hGr : (0 : Rat) < (G : Rat) := by exact_mod_cast hG
  have hB : 0 < G * M := Nat.mul_pos hG hM
  unfold riseS
  split
  · refine ⟨1, by omega, hB, ?_⟩
    rw [Nat.mul_one]; exact hQ
  · rename_i hne
    have hd := steps_least ho hg h hne
    generalize leastL (stepsL p s) = d at hd
    have hrt : ∀ i, i < p.n → isInt (G * s.rt i) := fun i hi => by
      by_cases e : s.rt i = 0
      · rw [e, Rat.mul_zero]; exact isInt.zero
      · rw [(h.grow i hi e).1]; exact hGg i hi
    -- N, and d * Q * N and d * rt * Q * N are whole
    have key : ∃ N : Nat, 0 < N ∧ N ≤ G * M ∧ ∃ z : Rat, isInt z ∧ d * (Q * N) = z * G := by
      rcases hd.some with ⟨i, hi, hne, he⟩ | ⟨r, hr, hne, he⟩
      · have h1 := rt_nonneg hg h hi
        obtain ⟨N, hN⟩ := (hrt i hi).toNat (Rat.mul_nonneg (by grind) h1)
        have hNp := Rat.mul_pos hGr (show 0 < s.rt i by grind)
        refine ⟨N, ?_, ?_, Q * (p.C i - s.ts i), ?_, ?_⟩
        · apply Nat.pos_of_ne_zero
          intro e
          rw [e] at hN
          have z : ((0 : Nat) : Rat) = 0 := rfl
          grind
        · have h3 : s.rt i ≤ M := by rw [(h.grow i hi hne).1]; exact hgM i hi
          have h4 := mul_le_left h3 (show (0 : Rat) ≤ G by grind)
          rw [hN] at h4
          have h5 : ((G * M : Nat) : Rat) = (G : Rat) * (M : Rat) := Rat.natCast_mul _ _
          rw [← h5] at h4
          exact Rat.natCast_le_natCast.1 h4
        · have e : (Q : Rat) * (p.C i - s.ts i) = Q * p.C i - Q * s.ts i := by grind
          rw [e]; exact ((isInt.nat Q).mul (hC i hi)).sub (hQ.ts i hi)
        · rw [← hN]
          calc d * (Q * (G * s.rt i)) = Q * (d * s.rt i) * G := by grind
            _ = _ := by rw [he]
      · have h1 := speed_nonneg ho hg h hr
        have hNint : isInt (G * used p s.rt r) := by
          unfold used
          rw [← sumN_mul]
          apply isInt.sum
          intro i hi
          have := (hrt i hi).mul (hD i r hi hr)
          have e : (G : Rat) * (s.rt i * p.D i r) = G * s.rt i * p.D i r := by grind
          rw [e]; exact this
        obtain ⟨N, hN⟩ := hNint.toNat (Rat.mul_nonneg (by grind) h1)
        have hNp := Rat.mul_pos hGr (show 0 < used p s.rt r by grind)
        refine ⟨N, ?_, ?_, Q * (p.P r - used p s.ts r), ?_, ?_⟩
        · apply Nat.pos_of_ne_zero
          intro e
          rw [e] at hN
          have z : ((0 : Nat) : Rat) = 0 := rfl
          grind
        · have h3 : used p s.rt r ≤ M := by
            refine Rat.le_trans ?_ (hMr r hr)
            apply sumN_le
            intro i hi
            have hWP : 0 ≤ p.W i * p.P r := Rat.mul_nonneg (by have := ho.W0 i hi; grind) (ho.P0 r hr)
            by_cases e : s.rt i = 0
            · rw [e]; grind
            · rw [(h.grow i hi e).1]
              by_cases e2 : 0 < p.D i r
              · exact hg.le i r hi hr e2
              · have : p.D i r = 0 := by have := ho.D0 i r hi hr; grind
                rw [this]; grind
          have h4 := mul_le_left h3 (show (0 : Rat) ≤ G by grind)
          rw [hN] at h4
          have h5 : ((G * M : Nat) : Rat) = (G : Rat) * (M : Rat) := Rat.natCast_mul _ _
          rw [← h5] at h4
          exact Rat.natCast_le_natCast.1 h4
        · have e : (Q : Rat) * (p.P r - used p s.ts r) = Q * p.P r - Q * used p s.ts r := by grind
          rw [e]
          refine ((isInt.nat Q).mul (hP r hr)).sub ?_
          unfold used
          rw [← sumN_mul]
          apply isInt.sum
          intro i hi
          have := (hQ.ts i hi).mul (hD i r hi hr)
          have e : (Q : Rat) * (s.ts i * p.D i r) = Q * s.ts i * p.D i r := by grind
          rw [e]; exact this
        · rw [← hN]
          calc d * (Q * (G * used p s.rt r)) = Q * (d * used p s.rt r) * G := by grind
            _ = _ := by rw [he]
    obtain ⟨N, hN0, hNB, z, hz, he⟩ := key
    have eQ : ((Q * N : Nat) : Rat) = (Q : Rat) * (N : Rat) := Rat.natCast_mul _ _
    have hlev : isInt (((Q * N : Nat) : Rat) * (s.lev + d)) := by
      rw [eQ]
      have e : (Q : Rat) * N * (s.lev + d) = Q * s.lev * N + z * G := by rw [← he]; grind
      rw [e]; exact (hQ.lev.mul (isInt.nat N)).add (hz.mul (isInt.nat G))
    refine ⟨N, hN0, hNB, ?_, ?_, hlev⟩
    · intro i hi
      show isInt (((Q * N : Nat) : Rat) * upTs s d i)
      rw [eQ]
      unfold upTs
      split
      · have e : (Q : Rat) * N * s.ts i = Q * s.ts i * N := by grind
        rw [e]; exact (hQ.ts i hi).mul (isInt.nat N)
      · have e : (Q : Rat) * N * (s.ts i + s.rt i * d) = Q * s.ts i * N + z * (G * s.rt i) := by
          have : (Q : Rat) * N * (s.rt i * d) = d * (Q * N) * s.rt i := by grind
          rw [Rat.mul_add, this, he]; grind
        rw [e]; exact ((hQ.ts i hi).mul (isInt.nat N)).add (hz.mul (hrt i hi))
    · intro i hi
      show isInt (((Q * N : Nat) : Rat) * upLv s d i)
      unfold upLv
      split
      · rw [eQ]
        have e : (Q : Rat) * N * s.lv i = Q * s.lv i * N := by grind
        rw [e]; exact (hQ.lv i hi).mul (isInt.nat N)
      · exact hlev

theorem lv_le_one {p : Prob} {g : Nat → Rat} (ho : p.Ok) (hg : Rate p g) (hW : ∀ i, i < p.n → 1 ≤ p.W i) {s : St} (h : Inv p g s) {i : Nat} (hi : i < p.n) : s.lv i ≤ 1 := by
  obtain ⟨h1, h2, h3, h4⟩ := h.lvs i hi
  by_cases e : g i = 0
  · rw [(h4 e).1]; decide
  · obtain ⟨r, hr, hD, he⟩ := hg.eq i hi
    have hW1 := hW i hi
    have hP : 0 < p.P r := by
      by_cases e2 : p.P r = 0
      · exact absurd (rate_zero ho hg hi hr hD e2) e
      · have := ho.P0 r hr; grind
    have h5 := h.borne.pool r hr
    have h6 := le_sumN (f := fun i => s.ts i * p.D i r) (n := p.n) (fun j hj => Rat.mul_nonneg (h.borne.low j hj) (ho.D0 j r hj hr)) hi
    have h7 : s.ts i * p.D i r ≤ p.P r := Rat.le_trans h6 h5
    rw [h1] at h7
    have h8 : g i * s.lv i * p.D i r = s.lv i * p.W i * p.P r := by
      calc _ = s.lv i * (g i * p.D i r) := by grind
        _ = _ := by rw [he]; grind
    rw [h8] at h7
    have h9 : s.lv i * p.W i ≤ 1 := le_of_mul (c := p.P r) (by grind) hP
    have h10 := mul_le_left hW1 h2
    grind

theorem rises_lev {p : Prob} {g : Nat → Rat} (ho : p.Ok) (hg : Rate p g) (hW : ∀ i, i < p.n → 1 ≤ p.W i) {s : St} (h : Inv p g s) (h1 : s.lev ≤ 1) : (riseS p s).lev ≤ 1 := by
  classical
  have hi := rise_inv ho hg h
  by_cases hne : stepsL p s = []
  · unfold riseS; rw [if_pos hne]; exact h1
  · have hd := steps_least ho hg h hne
    obtain ⟨i, hin, h2, h3⟩ := hd.stops ho h
    have := lv_le_one ho hg hW hi hin
    have e : (riseS p s).lv i = (riseS p s).lev := by
      unfold riseS; rw [if_neg hne]
      show upLv s _ i = _
      unfold upLv; rw [if_neg h2]
    rw [e] at this; exact this

/-- behind m rises all have a denominator of at most B to the m -/
theorem rises_dens {p : Prob} {g : Nat → Rat} (ho : p.Ok) (hg : Rate p g) (hW : ∀ i, i < p.n → 1 ≤ p.W i)
    (hC : ∀ i, i < p.n → isInt (p.C i)) (hD : ∀ i r, i < p.n → r < p.k → isInt (p.D i r)) (hP : ∀ r, r < p.k → isInt (p.P r))
    (G M : Nat) (hG : 0 < G) (hGg : ∀ i, i < p.n → isInt (G * g i)) (hMr : ∀ r, r < p.k → sumN (fun i => p.W i * p.P r) p.n ≤ M) (hgM : ∀ i, i < p.n → g i ≤ M) (hM : 0 < M)
    {s : St} (h : Inv p g s) (hl : s.lev ≤ 1) (h1 : Dens p s 1) : ∀ m, (risesN p s m).lev ≤ 1 ∧ ∃ Q : Nat, 0 < Q ∧ Q ≤ (G * M) ^ m ∧ Dens p (risesN p s m) Q := by
  intro m
  induction m with
  | zero => exact ⟨hl, 1, by omega, by simp, h1⟩
  | succ m ih =>
    obtain ⟨hl', Q, hQ0, hQ, hd⟩ := ih
    obtain ⟨N, hN0, hN, hd'⟩ := hd.rise ho hg (rises_inv ho hg h m) hC hD hP G M hG hGg hMr hgM hQ0 hM
    refine ⟨rises_lev ho hg hW (rises_inv ho hg h m) hl', Q * N, Nat.mul_pos hQ0 hN0, ?_, hd'⟩
    rw [Nat.pow_succ]; exact Nat.mul_le_mul hQ hN
end Go.Proofs.YtigokanoflkinaaGreatDoor.Por

/- The reference in whole numbers: what it looks for and finds. -/
namespace Go.Proofs.YtigokanoflkinaaGreatDoor.Por
set_option linter.unusedVariables false

def sumT (f : Nat → Nat) : Nat → Nat
  | 0 => 0
  | n + 1 => sumT f n + f n
theorem sumT_cast (f : Nat → Nat) (n : Nat) : ((sumT f n : Nat) : Rat) = sumN (fun i => (f i : Rat)) n := by
  induction n with
  | zero => rfl
  | succ n ih => simp only [sumT, sumN]; rw [Rat.natCast_add, ih]
/-- a problem in whole numbers -/
structure NProb where
  n : Nat
  k : Nat
  P : Nat → Nat
  D : Nat → Nat → Nat
  W : Nat → Nat
  C : Nat → Nat
def NProb.toP (a : NProb) : Prob := ⟨a.n, a.k, fun r => (a.P r : Rat), fun i r => (a.D i r : Rat), fun i => (a.W i : Rat), fun i => (a.C i : Rat)⟩

/-- the state of the reference: who grows; what the others have, over q -/
structure RS where
  still : Nat → Bool
  hv : Nat → Nat
  q : Nat

def pullT (a : NProb) (gr : Nat → Nat) (R : RS) (r : Nat) : Nat := sumT (fun i => if R.still i then a.D i r * gr i else 0) a.n
/-- what is left behind the first m users -/
def leftT (a : NProb) (R : RS) (r : Nat) : Nat → Nat
  | 0 => a.P r * R.q
  | m + 1 => if R.still m then leftT a R r m else leftT a R r m - a.D m r * R.hv m
def lft (a : NProb) (R : RS) (r : Nat) : Nat := leftT a R r a.n

/-- n over s, and whether by a kind -/
def nextK (a : NProb) (gr : Nat → Nat) (R : RS) : Nat → Nat × Nat × Bool
  | 0 => (0, 0, false)
  | r + 1 => let x := nextK a gr R r
             if pullT a gr R r = 0 then x else if x.2.1 = 0 ∨ lft a R r * x.2.1 < x.1 * pullT a gr R r then (lft a R r, pullT a gr R r, true) else x
def nextU (a : NProb) (gr : Nat → Nat) (R : RS) (x0 : Nat × Nat × Bool) : Nat → Nat × Nat × Bool
  | 0 => x0
  | i + 1 => let x := nextU a gr R x0 i
             if R.still i then (if a.C i * R.q * x.2.1 < x.1 * gr i then (a.C i * R.q, gr i, false) else x) else x
def nextT (a : NProb) (gr : Nat → Nat) (R : RS) : Nat × Nat × Bool := nextU a gr R (nextK a gr R a.k) a.n

def stopT (a : NProb) (gr : Nat → Nat) (R : RS) (n s : Nat) (i : Nat) : Prop := a.C i * R.q * s = n * gr i ∨ ∃ r, r < a.k ∧ 0 < a.D i r ∧ lft a R r * s = n * pullT a gr R r

/-- one turn of the reference -/
structure TurnT (a : NProb) (gr : Nat → Nat) (R R' : RS) : Prop where
  still : ∀ i, i < a.n → (R'.still i = true ↔ R.still i = true ∧ ¬ stopT a gr R (nextT a gr R).1 (nextT a gr R).2.1 i)
  q : R'.q = if (nextT a gr R).2.2 then R.q * (nextT a gr R).2.1 else R.q
  hvs : ∀ i, i < a.n → R.still i = true → stopT a gr R (nextT a gr R).1 (nextT a gr R).2.1 i → R'.hv i = if (nextT a gr R).2.2 then (nextT a gr R).1 * gr i else a.C i * R'.q
  hvo : ∀ i, i < a.n → ¬ (R.still i = true ∧ stopT a gr R (nextT a gr R).1 (nextT a gr R).2.1 i) → R'.hv i = if (nextT a gr R).2.2 then R.hv i * (nextT a gr R).2.1 else R.hv i

structure Abs (a : NProb) (g : Nat → Rat) (s : St) (R : RS) : Prop where
  q : 0 < R.q
  still : ∀ i, i < a.n → (R.still i = true ↔ s.rt i ≠ 0)
  hv : ∀ i, i < a.n → R.still i = false → (R.hv i : Rat) = R.q * s.ts i
  hv0 : ∀ i, i < a.n → R.still i = true → R.hv i = 0

theorem cast_pos {n : Nat} (h : 0 < n) : (0 : Rat) < (n : Rat) := Rat.natCast_pos.2 h
theorem cast_nonneg (n : Nat) : (0 : Rat) ≤ (n : Rat) := Rat.natCast_nonneg
theorem cast_le {n m : Nat} : (n : Rat) ≤ (m : Rat) ↔ n ≤ m := Rat.natCast_le_natCast
theorem cast_lt {n m : Nat} : (n : Rat) < (m : Rat) ↔ n < m := Rat.natCast_lt_natCast
theorem cast_eq {n m : Nat} : (n : Rat) = (m : Rat) ↔ n = m := Rat.natCast_inj
theorem cast_mul (n m : Nat) : ((n * m : Nat) : Rat) = n * m := Rat.natCast_mul _ _

/-- what those have that have stopped -/
theorem left_sum {a : NProb} {g : Nat → Rat} {s : St} {R : RS} (hA : Abs a g s R) (hb : Borne a.toP s.ts) {r : Nat} (hr : r < a.k) :
    ∀ m, m ≤ a.n → ((leftT a R r m : Nat) : Rat) = R.q * (a.P r - sumN (fun i => if R.still i then 0 else s.ts i * a.D i r) m) := by
  intro m hm
  have hq := cast_pos hA.q
  induction m with
  | zero => simp only [leftT, sumN]; rw [cast_mul]; grind
  | succ m ih =>
    have ih' := ih (by omega)
    simp only [leftT, sumN]
    cases hs : R.still m with
    | true => simp only [if_true]; rw [ih']; grind
    | false =>
      simp only [Bool.false_eq_true, if_false]
      have hv := hA.hv m (by omega) hs
      have hle : sumN (fun i => if R.still i then 0 else s.ts i * a.D i r) (m + 1) ≤ a.P r := by
        have h1 : sumN (fun i => if R.still i then 0 else s.ts i * a.D i r) (m + 1) ≤ sumN (fun i => if R.still i then 0 else s.ts i * (a.D i r : Rat)) a.n := by
          have : ∀ k, m + 1 ≤ k → k ≤ a.n → sumN (fun i => if R.still i then 0 else s.ts i * (a.D i r : Rat)) (m + 1) ≤ sumN (fun i => if R.still i then 0 else s.ts i * (a.D i r : Rat)) k := by
            intro k hk
            induction k with
            | zero => omega
            | succ k ihk =>
              intro hkn
              by_cases e : m + 1 = k + 1
              · rw [e]; exact Rat.le_refl
              · have h5 := ihk (by omega) (by omega)
                simp only [sumN] at h5 ⊢
                have h6 : (0 : Rat) ≤ if R.still k then 0 else s.ts k * (a.D k r : Rat) := by
                  split
                  · exact Rat.le_refl
                  · exact Rat.mul_nonneg (hb.low k (by exact (by omega : k < a.n))) (cast_nonneg _)
                grind
          exact this a.n hm (Nat.le_refl _)
        refine Rat.le_trans h1 (Rat.le_trans (sumN_le ?_) (hb.pool r hr))
        intro i hi
        show (if R.still i then 0 else s.ts i * (a.D i r : Rat)) ≤ s.ts i * (a.D i r : Rat)
        split
        · exact Rat.mul_nonneg (hb.low i hi) (cast_nonneg _)
        · exact Rat.le_refl
      simp only [sumN, hs, Bool.false_eq_true, if_false] at hle
      have hsub : a.D m r * R.hv m ≤ leftT a R r m := by
        rw [← cast_le, cast_mul, ih', hv]
        have := mul_le_left hle (show (0 : Rat) ≤ R.q by grind)
        grind
      have e : ((leftT a R r m - a.D m r * R.hv m : Nat) : Rat) = (leftT a R r m : Rat) - (a.D m r * R.hv m : Nat) := by
        have h9 : leftT a R r m - a.D m r * R.hv m + a.D m r * R.hv m = leftT a R r m := Nat.sub_add_cancel hsub
        have h10 := congrArg (fun n : Nat => (n : Rat)) h9
        simp only [Rat.natCast_add] at h10
        grind
      rw [e, ih', cast_mul, hv]; grind
theorem pull_sum {a : NProb} {g : Nat → Rat} {gr : Nat → Nat} {Gm : Nat} (hgr : ∀ i, i < a.n → (gr i : Rat) = Gm * g i) {s : St} {R : RS} (h : Inv a.toP g s) (hA : Abs a g s R) (r : Nat) :
    ((pullT a gr R r : Nat) : Rat) = Gm * used a.toP s.rt r := by
  unfold pullT used
  rw [sumT_cast, ← sumN_mul]
  apply sumN_congr
  intro i hi
  show (((if R.still i then a.D i r * gr i else 0 : Nat)) : Rat) = Gm * (s.rt i * (a.D i r : Rat))
  have hst := hA.still i hi
  cases e : R.still i with
  | true =>
    simp only [if_true]
    have := (h.grow i hi (hst.1 e)).1
    rw [cast_mul, hgr i hi, this]; grind
  | false =>
    simp only [Bool.false_eq_true, if_false]
    have : s.rt i = 0 := by
      apply Classical.byContradiction
      intro h5
      rw [hst.2 h5] at e; cases e
    rw [this]
    show ((0 : Nat) : Rat) = _
    have z : ((0 : Nat) : Rat) = 0 := rfl
    rw [z]; grind
/-- what is used of kind r when the level is l -/
theorem used_left {a : NProb} {g : Nat → Rat} {gr : Nat → Nat} {Gm : Nat} (hGm : 0 < Gm) (hgr : ∀ i, i < a.n → (gr i : Rat) = Gm * g i) {s : St} {R : RS} (h : Inv a.toP g s) (hA : Abs a g s R) {r : Nat} (hr : r < a.k) (l : Rat) :
    Gm * (R.q * used a.toP (tsAt g s l) r) = Gm * (R.q * a.P r - lft a R r) + l * R.q * pullT a gr R r := by
  have h1 := left_sum hA h.borne hr a.n (Nat.le_refl _)
  have h2 := pull_sum hgr h hA r
  have hq := cast_pos hA.q
  unfold lft
  rw [h1, h2]
  have h3 : used a.toP (tsAt g s l) r = sumN (fun i => if R.still i then 0 else s.ts i * a.D i r) a.n + l * used a.toP s.rt r := by
    show sumN (fun i => tsAt g s l i * (a.D i r : Rat)) a.n = _ + l * sumN (fun i => s.rt i * (a.D i r : Rat)) a.n
    rw [← sumN_mul, ← sumN_add]
    apply sumN_congr
    intro i hi
    show tsAt g s l i * (a.D i r : Rat) = (if R.still i then 0 else s.ts i * a.D i r) + l * (s.rt i * (a.D i r : Rat))
    have hst := hA.still i hi
    unfold tsAt
    cases e : R.still i with
    | true =>
      have e2 := hst.1 e
      rw [if_neg e2, (h.grow i hi e2).1]
      simp only [if_true]; grind
    | false =>
      have e2 : s.rt i = 0 := by
        apply Classical.byContradiction
        intro h5
        rw [hst.2 h5] at e; cases e
      rw [if_pos e2, e2]
      simp only [Bool.false_eq_true, if_false]; grind
  rw [h3]; grind

/-- what the look through kinds and caps finds -/
structure Found (a : NProb) (gr : Nat → Nat) (R : RS) (x : Nat × Nat × Bool) (K U : Nat) : Prop where
  pos : 0 < x.2.1
  kinds : ∀ r, r < K → pullT a gr R r ≠ 0 → x.1 * pullT a gr R r ≤ lft a R r * x.2.1
  caps : ∀ i, i < U → R.still i = true → x.1 * gr i ≤ a.C i * R.q * x.2.1
  isK : x.2.2 = true → ∃ r, r < K ∧ pullT a gr R r ≠ 0 ∧ x.1 = lft a R r ∧ x.2.1 = pullT a gr R r
  isU : x.2.2 = false → (∃ i, i < U ∧ R.still i = true ∧ x.1 = a.C i * R.q ∧ x.2.1 = gr i) ∧ ∀ r, r < K → pullT a gr R r ≠ 0 → x.1 * pullT a gr R r < lft a R r * x.2.1

theorem frac_trans {a b c d e f : Nat} (hb : 0 < d) (h1 : a * d ≤ c * b) (h2 : c * f ≤ e * d) : a * f ≤ e * b := by
  have h3 : a * d * f ≤ c * b * f := Nat.mul_le_mul_right f h1
  have h4 : c * f * b ≤ e * d * b := Nat.mul_le_mul_right b h2
  have h5 : d * (a * f) ≤ d * (e * b) := by
    calc d * (a * f) = a * d * f := by ac_rfl
      _ ≤ c * b * f := h3
      _ = c * f * b := by ac_rfl
      _ ≤ e * d * b := h4
      _ = d * (e * b) := by ac_rfl
  exact Nat.le_of_mul_le_mul_left h5 hb
theorem frac_trans_lt {a b c d e f : Nat} (hf : 0 < f) (hd : 0 < d) (hb : 0 < b) (h1 : a * d < c * b) (h2 : c * f ≤ e * d) : a * f < e * b := by
  have h3 : a * d * f < c * b * f := Nat.mul_lt_mul_of_pos_right h1 hf
  have h4 : c * f * b ≤ e * d * b := Nat.mul_le_mul_right b h2
  have h5 : d * (a * f) < d * (e * b) := by
    calc d * (a * f) = a * d * f := by ac_rfl
      _ < c * b * f := h3
      _ = c * f * b := by ac_rfl
      _ ≤ e * d * b := h4
      _ = d * (e * b) := by ac_rfl
  exact Nat.lt_of_mul_lt_mul_left h5

theorem nextK_found {a : NProb} {gr : Nat → Nat} {R : RS} : ∀ K, (nextK a gr R K = (0, 0, false) ∧ ∀ r, r < K → pullT a gr R r = 0) ∨ (Found a gr R (nextK a gr R K) K 0 ∧ (nextK a gr R K).2.2 = true) := by
  intro K
  induction K with
  | zero => left; exact ⟨rfl, fun r hr => by omega⟩
  | succ K ih =>
    simp only [nextK]
    by_cases hp : pullT a gr R K = 0
    · rw [if_pos hp]
      rcases ih with ⟨h1, h2⟩ | ⟨h1, h2⟩
      · left
        refine ⟨h1, fun r hr => ?_⟩
        by_cases e : r = K
        · subst e; exact hp
        · exact h2 r (by omega)
      · right
        refine ⟨⟨h1.pos, fun r hr hn => ?_, fun i hi => by omega, fun hk => ?_, fun hk => by rw [h2] at hk; cases hk⟩, h2⟩
        · by_cases e : r = K
          · subst e; exact absurd hp hn
          · exact h1.kinds r (by omega) hn
        · obtain ⟨r, h3, h4⟩ := h1.isK hk; exact ⟨r, by omega, h4⟩
    · rw [if_neg hp]
      right
      rcases ih with ⟨h1, h2⟩ | ⟨h1, h2⟩
      · rw [h1, if_pos (Or.inl rfl)]
        refine ⟨⟨Nat.pos_of_ne_zero hp, fun r hr hn => ?_, fun i hi => by omega, fun _ => ⟨K, by omega, hp, rfl, rfl⟩, fun hk => by cases hk⟩, rfl⟩
        by_cases e : r = K
        · subst e; exact Nat.le_refl _
        · exact absurd (h2 r (by omega)) hn
      · by_cases hc : (nextK a gr R K).2.1 = 0 ∨ lft a R K * (nextK a gr R K).2.1 < (nextK a gr R K).1 * pullT a gr R K
        · rw [if_pos hc]
          have hlt : lft a R K * (nextK a gr R K).2.1 < (nextK a gr R K).1 * pullT a gr R K := by
            rcases hc with h5 | h5
            · have := h1.pos; omega
            · exact h5
          refine ⟨⟨Nat.pos_of_ne_zero hp, fun r hr hn => ?_, fun i hi => by omega, fun _ => ⟨K, by omega, hp, rfl, rfl⟩, fun hk => by cases hk⟩, rfl⟩
          by_cases e : r = K
          · subst e; exact Nat.le_refl _
          · exact frac_trans h1.pos (Nat.le_of_lt hlt) (h1.kinds r (by omega) hn)
        · rw [if_neg hc]
          refine ⟨⟨h1.pos, fun r hr hn => ?_, fun i hi => by omega, fun hk => ?_, fun hk => by rw [h2] at hk; cases hk⟩, h2⟩
          · by_cases e : r = K
            · subst e
              have : ¬ lft a R r * (nextK a gr R r).2.1 < (nextK a gr R r).1 * pullT a gr R r := fun h5 => hc (Or.inr h5)
              omega
            · exact h1.kinds r (by omega) hn
          · obtain ⟨r, h3, h4⟩ := h1.isK hk; exact ⟨r, by omega, h4⟩

theorem nextU_found {a : NProb} {gr : Nat → Nat} {R : RS} (hg0 : ∀ i, i < a.n → R.still i = true → 0 < gr i) {x0 : Nat × Nat × Bool} {K : Nat} (h0 : Found a gr R x0 K 0) : ∀ U, U ≤ a.n → Found a gr R (nextU a gr R x0 U) K U := by
  intro U hU
  induction U with
  | zero => exact h0
  | succ U ih =>
    have h1 := ih (by omega)
    simp only [nextU]
    cases hs : R.still U with
    | false =>
      simp only [Bool.false_eq_true, if_false]
      refine ⟨h1.pos, h1.kinds, fun i hi hst => ?_, h1.isK, fun hk => ?_⟩
      · by_cases e : i = U
        · subst e; rw [hs] at hst; cases hst
        · exact h1.caps i (by omega) hst
      · obtain ⟨⟨i, h3, h4⟩, h5⟩ := h1.isU hk; exact ⟨⟨i, by omega, h4⟩, h5⟩
    | true =>
      simp only [if_true]
      by_cases hc : a.C U * R.q * (nextU a gr R x0 U).2.1 < (nextU a gr R x0 U).1 * gr U
      · rw [if_pos hc]
        refine ⟨hg0 U (by omega) hs, fun r hr hn => frac_trans h1.pos (Nat.le_of_lt hc) (h1.kinds r hr hn), fun i hi hst => ?_, fun hk => (by cases hk), fun _ => ⟨⟨U, by omega, hs, rfl, rfl⟩, fun r hr hn => frac_trans_lt (Nat.pos_of_ne_zero hn) h1.pos (hg0 U (by omega) hs) hc (h1.kinds r hr hn)⟩⟩
        by_cases e : i = U
        · subst e; exact Nat.le_refl _
        · exact frac_trans h1.pos (Nat.le_of_lt hc) (h1.caps i (by omega) hst)
      · rw [if_neg hc]
        refine ⟨h1.pos, h1.kinds, fun i hi hst => ?_, h1.isK, fun hk => ?_⟩
        · by_cases e : i = U
          · subst e; omega
          · exact h1.caps i (by omega) hst
        · obtain ⟨⟨i, h3, h4⟩, h5⟩ := h1.isU hk; exact ⟨⟨i, by omega, h4⟩, h5⟩
end Go.Proofs.YtigokanoflkinaaGreatDoor.Por

/- The reference: a turn of it is a rise of the level. -/
namespace Go.Proofs.YtigokanoflkinaaGreatDoor.Por
set_option linter.unusedVariables false

theorem cnt_congr {S T : Nat → Prop} {k : Nat} (h : ∀ r, r < k → (S r ↔ T r)) : cnt S k = cnt T k := by
  induction k with
  | zero => rfl
  | succ k ih =>
    simp only [cnt]
    rw [ih (fun r hr => h r (by omega))]
    by_cases e : S k
    · rw [if_pos e, if_pos ((h k (by omega)).1 e)]
    · rw [if_neg e, if_neg (fun h5 => e ((h k (by omega)).2 h5))]
theorem cnt_lt' {S T : Nat → Prop} {k r0 : Nat} (h : ∀ r, r < k → S r → T r) (hr : r0 < k) (h1 : T r0) (h2 : ¬ S r0) : cnt S k < cnt T k := by
  rw [cnt_congr (S := S) (T := fun r => S r ∧ r < k) (fun r hr => ⟨fun h5 => ⟨h5, hr⟩, fun h5 => h5.1⟩)]
  exact cnt_lt (fun r h5 => h r h5.2 h5.1) hr h1 (fun h5 => h2 h5.1)
theorem nextU_zero {a : NProb} {gr : Nat → Nat} {R : RS} : ∀ U, nextU a gr R (0, 0, false) U = (0, 0, false) := by
  intro U
  induction U with
  | zero => rfl
  | succ U ih => simp only [nextU]; rw [ih]; simp
theorem next_found {a : NProb} {gr : Nat → Nat} {R : RS} (hg0 : ∀ i, i < a.n → R.still i = true → 0 < gr i) (hne : (nextT a gr R).2.1 ≠ 0) : Found a gr R (nextT a gr R) a.k a.n := by
  unfold nextT at hne ⊢
  rcases nextK_found (a := a) (gr := gr) (R := R) a.k with ⟨h1, h2⟩ | ⟨h1, h2⟩
  · rw [h1, nextU_zero] at hne; exact absurd rfl hne
  · exact nextU_found hg0 h1 a.n (Nat.le_refl _)
theorem pull_pos {a : NProb} {gr : Nat → Nat} {R : RS} {i r : Nat} (hi : i < a.n) (hs : R.still i = true) (hD : 0 < a.D i r) (hg : 0 < gr i) : pullT a gr R r ≠ 0 := by
  have h1 : ∀ n, i < n → 0 < sumT (fun i => if R.still i then a.D i r * gr i else 0) n := by
    intro n
    induction n with
    | zero => intro h; omega
    | succ n ih =>
      intro h
      simp only [sumT]
      by_cases e : i = n
      · subst e
        rw [hs]
        have := Nat.mul_pos hD hg
        simp only [if_true]; omega
      · have := ih (by omega); omega
  have := h1 a.n hi
  unfold pullT; omega
theorem pull_some {a : NProb} {gr : Nat → Nat} {R : RS} {r : Nat} (h : pullT a gr R r ≠ 0) : ∃ i, i < a.n ∧ R.still i = true ∧ 0 < a.D i r := by
  apply Classical.byContradiction
  intro hn
  apply h
  have : ∀ n, n ≤ a.n → sumT (fun i => if R.still i then a.D i r * gr i else 0) n = 0 := by
    intro n
    induction n with
    | zero => intro _; rfl
    | succ n ih =>
      intro hle
      simp only [sumT]
      rw [ih (by omega)]
      cases hs : R.still n with
      | false => simp
      | true =>
        simp only [if_true]
        have : a.D n r = 0 := by
          apply Classical.byContradiction
          intro h5
          exact hn ⟨n, by omega, hs, Nat.pos_of_ne_zero h5⟩
        rw [this]; simp
  exact this a.n (Nat.le_refl _)
/-- nobody grows: the reference ends -/
theorem next_none {a : NProb} {gr : Nat → Nat} {R : RS} (hg0 : ∀ i, i < a.n → R.still i = true → 0 < gr i) (hD : ∀ i, i < a.n → ∃ r, r < a.k ∧ 0 < a.D i r) (hz : (nextT a gr R).2.1 = 0) : ∀ i, i < a.n → R.still i = false := by
  intro i hi
  cases hs : R.still i with
  | false => rfl
  | true =>
    exfalso
    obtain ⟨r, hr, h1⟩ := hD i hi
    have hp := pull_pos hi hs h1 (hg0 i hi hs)
    rcases nextK_found (a := a) (gr := gr) (R := R) a.k with ⟨_, h2⟩ | ⟨h2, _⟩
    · exact hp (h2 r hr)
    · have := (nextU_found hg0 h2 a.n (Nat.le_refl _)).pos
      unfold nextT at hz; omega

theorem turn_abs {a : NProb} {g : Nat → Rat} {gr : Nat → Nat} {Gm : Nat} (ho : a.toP.Ok) (hg : Rate a.toP g) (hGm : 0 < Gm) (hgr : ∀ i, i < a.n → (gr i : Rat) = Gm * g i) {s : St} {R R' : RS}
    (h : Inv a.toP g s) (hA : Abs a g s R) (hT : TurnT a gr R R') (hne : (nextT a gr R).2.1 ≠ 0) :
    (∃ s', Inv a.toP g s' ∧ Abs a g s' R') ∧ cnt (fun i => R'.still i = true) a.n < cnt (fun i => R.still i = true) a.n := by
  classical
  have hG := cast_pos hGm
  have hq := cast_pos hA.q
  have hg0 : ∀ i, i < a.n → R.still i = true → 0 < g i := fun i hi hs => by
    have h1 := (hA.still i hi).1 hs
    have h2 := (h.grow i hi h1).1
    have h3 := hg.pos i hi
    rw [h2] at h1
    grind
  have hgr0 : ∀ i, i < a.n → R.still i = true → 0 < gr i := fun i hi hs => by
    apply cast_lt.1
    rw [hgr i hi]
    exact Rat.mul_pos hG (hg0 i hi hs)
  have hF := next_found hgr0 hne
  obtain ⟨hTs, hTq, hTh, hTo⟩ := hT
  revert hF hTs hTq hTh hTo
  generalize nextT a gr R = x
  obtain ⟨N, S, B⟩ := x
  intro hF hTs hTq hTh hTo
  simp only at hTs hTq hTh hTo
  have hS := cast_pos hF.pos
  simp only at hS
  have hkinds : ∀ r, r < a.k → pullT a gr R r ≠ 0 → N * pullT a gr R r ≤ lft a R r * S := hF.kinds
  have hcaps : ∀ i, i < a.n → R.still i = true → N * gr i ≤ a.C i * R.q * S := hF.caps
  -- the level
  have hl : ∃ l : Rat, l * (S * R.q) = N * Gm := ⟨N * Gm / (S * R.q), div_mul (by have := Rat.mul_pos hS hq; grind)⟩
  obtain ⟨l, hl⟩ := hl
  have hl0 : 0 ≤ l := le_of_mul (c := S * R.q) (by rw [hl, Rat.zero_mul]; exact Rat.mul_nonneg (cast_nonneg _) (cast_nonneg _)) (Rat.mul_pos hS hq)
  have hts : ∀ i, i < a.n → R.still i = true → tsAt g s l i = g i * l := fun i hi hs => by
    unfold tsAt; rw [if_neg ((hA.still i hi).1 hs)]
  have hoff : ∀ i, i < a.n → R.still i = false → s.rt i = 0 := fun i hi hs => by
    apply Classical.byContradiction
    intro h5
    rw [(hA.still i hi).2 h5] at hs; cases hs
  -- what a cap says
  have hcapv : ∀ i, i < a.n → (S * R.q) * (Gm * (g i * l)) = Gm * ((N * gr i : Nat) : Rat) := fun i hi => by
    rw [cast_mul, hgr i hi]
    calc (S * R.q) * (Gm * (g i * l)) = Gm * g i * (l * (S * R.q)) := by grind
      _ = _ := by rw [hl]; grind
  have hSq := Rat.mul_pos hS hq
  have hSqG := Rat.mul_pos hSq hG
  have hcapC : ∀ i, (S * R.q) * (Gm * (a.C i : Rat)) = Gm * ((a.C i * R.q * S : Nat) : Rat) := fun i => by rw [cast_mul, cast_mul]; grind
  have hcaple : ∀ i, i < a.n → R.still i = true → g i * l ≤ a.C i := fun i hi hs => by
    have h1 := mul_le_left (cast_le.2 (hcaps i hi hs)) (show (0 : Rat) ≤ Gm by grind)
    rw [← hcapv i hi, ← hcapC i] at h1
    apply le_of_mul (c := S * R.q * Gm) _ hSqG
    grind
  have hcapeq : ∀ i, i < a.n → (g i * l = a.C i ↔ a.C i * R.q * S = N * gr i) := fun i hi => by
    constructor
    · intro e
      have h1 := hcapv i hi
      rw [e, hcapC i] at h1
      apply cast_eq.1
      have : (Gm : Rat) ≠ 0 := by grind
      grind
    · intro e
      have h1 := hcapv i hi
      rw [← e, ← hcapC i] at h1
      have : (S * R.q * Gm : Rat) ≠ 0 := by grind
      have h2 : (S * R.q * Gm : Rat) * (g i * l) = (S * R.q * Gm) * a.C i := by grind
      grind
  -- what a kind says
  have hkv : ∀ r, r < a.k → (S : Rat) * (Gm * (R.q * used a.toP (tsAt g s l) r)) = S * (Gm * (R.q * a.P r)) + Gm * (((N * pullT a gr R r : Nat) : Rat) - ((lft a R r * S : Nat) : Rat)) := fun r hr => by
    rw [used_left hGm hgr h hA hr l, cast_mul, cast_mul]
    have : (S : Rat) * (l * R.q * pullT a gr R r) = l * (S * R.q) * pullT a gr R r := by grind
    rw [Rat.mul_add, this, hl]; grind
  have hkle : ∀ r, r < a.k → used a.toP (tsAt g s l) r ≤ a.P r := fun r hr => by
    have h1 := hkv r hr
    have h2 : N * pullT a gr R r ≤ lft a R r * S := by
      by_cases e : pullT a gr R r = 0
      · rw [e]; simp
      · exact hkinds r hr e
    have h3 := mul_le_left (show (((N * pullT a gr R r : Nat) : Rat) - ((lft a R r * S : Nat) : Rat)) ≤ 0 by have := cast_le.2 h2; grind) (show (0 : Rat) ≤ Gm by grind)
    apply le_of_mul (c := S * R.q * Gm) _ hSqG
    grind
  have hkeq : ∀ r, r < a.k → (used a.toP (tsAt g s l) r = a.P r ↔ lft a R r * S = N * pullT a gr R r) := fun r hr => by
    have h1 := hkv r hr
    constructor
    · intro e
      rw [e] at h1
      apply cast_eq.1
      have : (Gm : Rat) ≠ 0 := by grind
      grind
    · intro e
      rw [e] at h1
      have : (S * R.q * Gm : Rat) ≠ 0 := by grind
      have h2 : (S * R.q * Gm : Rat) * used a.toP (tsAt g s l) r = (S * R.q * Gm) * a.P r := by grind
      grind
  have hstop : ∀ i, i < a.n → R.still i = true → (stopsB a.toP (tsAt g s l) i ↔ stopT a gr R N S i) := fun i hi hs => by
    unfold stopsB stopT
    rw [hts i hi hs]
    constructor
    · rintro (e | ⟨r, hr, hD, e⟩)
      · exact Or.inl ((hcapeq i hi).1 e)
      · exact Or.inr ⟨r, hr, Rat.natCast_pos.1 hD, (hkeq r hr).1 e⟩
    · rintro (e | ⟨r, hr, hD, e⟩)
      · exact Or.inl ((hcapeq i hi).2 e)
      · exact Or.inr ⟨r, hr, cast_pos hD, (hkeq r hr).2 e⟩
  have hlev : s.lev ≤ l := by
    have hold : ∀ i, i < a.n → tsAt g s s.lev i = s.ts i := fun i hi => by
      unfold tsAt
      split
      · rfl
      · rename_i e; rw [(h.grow i hi e).2.1]
    cases B with
    | true =>
      obtain ⟨r, hr, hp, e1, e2⟩ := hF.isK rfl
      simp only at e1 e2
      have h1 := (hkeq r hr).2 (by rw [e1, e2])
      have h2 := h.borne.pool r hr
      rw [← used_congr hold] at h2
      have h3 := used_left hGm hgr h hA hr s.lev
      have h4 := used_left hGm hgr h hA hr l
      rw [h1] at h4
      have hpp := cast_pos (Nat.pos_of_ne_zero hp)
      have hqp := Rat.mul_pos hq hpp
      apply le_of_mul (c := R.q * pullT a gr R r) _ hqp
      have h5 := mul_le_left (mul_le_left h2 (show (0 : Rat) ≤ R.q by grind)) (show (0 : Rat) ≤ Gm by grind)
      have h6 : a.toP.P r = a.P r := rfl
      rw [h6] at h5
      grind
    | false =>
      obtain ⟨⟨i, hi, hs, e1, e2⟩, _⟩ := hF.isU rfl
      simp only at e1 e2
      have h1 := (hcapeq i hi).2 (by rw [e1, e2])
      have h2 := h.borne.cap i hi
      rw [(h.grow i hi ((hA.still i hi).1 hs)).2.1] at h2
      have h6 : a.toP.C i = a.C i := rfl
      rw [h6, ← h1] at h2
      apply le_of_mul (c := g i) _ (hg0 i hi hs)
      grind
  have hb : Borne a.toP (tsAt g s l) := by
    refine ⟨fun i hi => ?_, fun i hi => ?_, fun r hr => hkle r hr⟩
    · unfold tsAt
      split
      · exact h.borne.low i hi
      · exact Rat.mul_nonneg (hg.pos i hi) hl0
    · cases hs : R.still i with
      | true => rw [hts i hi hs]; exact hcaple i hi hs
      | false =>
        unfold tsAt; rw [if_pos (hoff i hi hs)]; exact h.borne.cap i hi
  have hInv := h.step ho hg l hlev hb (fun i => if stopsB a.toP (tsAt g s l) i then 0 else s.rt i)
    (fun i hi e => by show (if _ then (0 : Rat) else s.rt i) = 0; split; rfl; exact e)
    (fun i hi e => by
      by_cases e2 : stopsB a.toP (tsAt g s l) i
      · left; exact ⟨if_pos e2, e2⟩
      · right; exact ⟨if_neg e2, e2⟩)
  have hq' : (R'.q : Rat) = if B then (R.q : Rat) * S else R.q := by
    rw [hTq]; cases B
    · rfl
    · simp only [if_true]; rw [cast_mul]
  refine ⟨⟨_, hInv, ?_, ?_, ?_, ?_⟩, ?_⟩
  · rw [hTq]; split
    · exact Nat.mul_pos hA.q hF.pos
    · exact hA.q
  · intro i hi
    rw [hTs i hi]
    show _ ↔ (if stopsB a.toP (tsAt g s l) i then 0 else s.rt i) ≠ 0
    constructor
    · rintro ⟨h1, h2⟩
      rw [if_neg (fun h5 => h2 ((hstop i hi h1).1 h5))]
      exact (hA.still i hi).1 h1
    · intro h1
      by_cases e2 : stopsB a.toP (tsAt g s l) i
      · rw [if_pos e2] at h1; exact absurd rfl h1
      · rw [if_neg e2] at h1
        have h2 := (hA.still i hi).2 h1
        exact ⟨h2, fun h5 => e2 ((hstop i hi h2).2 h5)⟩
  · intro i hi hs'
    show (R'.hv i : Rat) = R'.q * tsAt g s l i
    rw [hq']
    by_cases hst : R.still i = true ∧ stopT a gr R N S i
    · rw [hTh i hi hst.1 hst.2, hts i hi hst.1]
      cases B with
      | true =>
        simp only [if_true]
        have h1 := hcapv i hi
        have h2 : (Gm : Rat) * ((S * R.q) * (g i * l)) = Gm * ((N * gr i : Nat) : Rat) := by rw [← h1]; grind
        have : (Gm : Rat) ≠ 0 := by grind
        grind
      | false =>
        simp only [Bool.false_eq_true, if_false]
        have hU := (hF.isU rfl).2
        simp only at hU
        have hc : a.C i * R.q * S = N * gr i := by
          rcases hst.2 with e | ⟨r, hr, hD, e⟩
          · exact e
          · have := hU r hr (pull_pos hi hst.1 hD (hgr0 i hi hst.1)); omega
        rw [(hcapeq i hi).2 hc, cast_mul, hq']
        simp only [Bool.false_eq_true, if_false]; grind
    · have hso : R.still i = false := by
        cases e : R.still i with
        | false => rfl
        | true =>
          exfalso
          have : R'.still i = true := (hTs i hi).2 ⟨e, fun h5 => hst ⟨e, h5⟩⟩
          rw [this] at hs'; cases hs'
      rw [hTo i hi hst]
      have h1 := hA.hv i hi hso
      have h2 : tsAt g s l i = s.ts i := by unfold tsAt; rw [if_pos (hoff i hi hso)]
      rw [h2]
      cases B with
      | true => simp only [if_true]; rw [cast_mul, h1]; grind
      | false => simp only [Bool.false_eq_true, if_false]; exact h1
  · intro i hi hs'
    obtain ⟨h1, h2⟩ := (hTs i hi).1 hs'
    rw [hTo i hi (fun h5 => h2 h5.2), hA.hv0 i hi h1]
    cases B <;> simp
  · -- somebody stops
    have : ∃ i, i < a.n ∧ R.still i = true ∧ stopT a gr R N S i := by
      cases B with
      | true =>
        obtain ⟨r, hr, hp, e1, e2⟩ := hF.isK rfl
        simp only at e1 e2
        obtain ⟨i, hi, hs, hD⟩ := pull_some hp
        exact ⟨i, hi, hs, Or.inr ⟨r, hr, hD, by rw [e1, e2]⟩⟩
      | false =>
        obtain ⟨⟨i, hi, hs, e1, e2⟩, _⟩ := hF.isU rfl
        simp only at e1 e2
        exact ⟨i, hi, hs, Or.inl (by rw [e1, e2])⟩
    obtain ⟨i, hi, hs, hst⟩ := this
    refine cnt_lt' (r0 := i) (fun j hj h5 => ((hTs j hj).1 h5).1) hi hs (fun h5 => ((hTs i hi).1 h5).2 hst)
end Go.Proofs.YtigokanoflkinaaGreatDoor.Por
