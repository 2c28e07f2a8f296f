/- MFill, MLen, MRun, MRise, MDen, MRef, MRefB, joined. -/
import Derived.Test.YtigokanoflkinaaDoorRows
/- The maths of fair fillings: what each user is due is told by itself (unique), nobody has more but at the cost of who has less, no envy, nobody gets less than alone, nobody gets more by a lie. -/
namespace Go.Proofs.YtigokanoflkinaaDoor.Por
set_option linter.unusedVariables false

def sumN (f : Nat → Rat) : Nat → Rat
  | 0 => 0
  | n + 1 => sumN f n + f n

theorem sumN_congr {f g : Nat → Rat} {n : Nat} (h : ∀ i, i < n → f i = g i) : sumN f n = sumN g n := by
  induction n with
  | zero => rfl
  | succ n ih => simp only [sumN]; rw [ih (fun i hi => h i (by omega)), h n (by omega)]
theorem sumN_le {f g : Nat → Rat} {n : Nat} (h : ∀ i, i < n → f i ≤ g i) : sumN f n ≤ sumN g n := by
  induction n with
  | zero => exact Rat.le_refl
  | succ n ih =>
    have h1 := ih (fun i hi => h i (by omega))
    have h2 := h n (by omega)
    simp only [sumN]; grind
theorem sumN_zero {f : Nat → Rat} {n : Nat} (h : ∀ i, i < n → f i = 0) : sumN f n = 0 := by
  induction n with
  | zero => rfl
  | succ n ih => simp only [sumN]; rw [ih (fun i hi => h i (by omega)), h n (by omega)]; grind
theorem sumN_nonneg {f : Nat → Rat} {n : Nat} (h : ∀ i, i < n → 0 ≤ f i) : 0 ≤ sumN f n := by
  have := sumN_le (f := fun _ => 0) h
  rwa [sumN_zero (fun i _ => rfl)] at this
theorem sumN_mul {f : Nat → Rat} {n : Nat} (c : Rat) : sumN (fun i => c * f i) n = c * sumN f n := by
  induction n with
  | zero => simp [sumN]
  | succ n ih => simp only [sumN]; rw [ih]; grind
theorem sumN_add {f g : Nat → Rat} {n : Nat} : sumN (fun i => f i + g i) n = sumN f n + sumN g n := by
  induction n with
  | zero => simp only [sumN]; grind
  | succ n ih => simp only [sumN]; rw [ih]; grind
/-- one part of a sum of parts that are not below 0 is no more than the sum -/
theorem le_sumN {f : Nat → Rat} {n : Nat} (h : ∀ i, i < n → 0 ≤ f i) {i : Nat} (hi : i < n) : f i ≤ sumN f n := by
  induction n with
  | zero => omega
  | succ n ih =>
    simp only [sumN]
    have h1 := sumN_nonneg (f := f) (n := n) (fun i hi => h i (by omega))
    have h2 := h n (by omega)
    by_cases e : i = n
    · subst e; grind
    · have := ih (fun i hi => h i (by omega)) (by omega); grind
theorem mul_le_left {a b c : Rat} (h : a ≤ b) (hc : 0 ≤ c) : c * a ≤ c * b := Rat.mul_le_mul_of_nonneg_left h hc
theorem mul_le_right {a b c : Rat} (h : a ≤ b) (hc : 0 ≤ c) : a * c ≤ b * c := Rat.mul_le_mul_of_nonneg_right h hc
theorem inv_nonneg {a : Rat} (h : 0 ≤ a) : 0 ≤ a⁻¹ := by
  by_cases e : a = 0
  · rw [e, Rat.inv_zero]; exact Rat.le_refl
  · have := Rat.inv_pos.2 (show 0 < a by grind); grind
theorem div_nonneg {a b : Rat} (ha : 0 ≤ a) (hb : 0 ≤ b) : 0 ≤ a / b := by
  rw [Rat.div_def]; exact Rat.mul_nonneg ha (inv_nonneg hb)
theorem div_mul {a b : Rat} (hb : b ≠ 0) : a / b * b = a := by grind
theorem le_of_mul {a b c : Rat} (h : a * c ≤ b * c) (hc : 0 < c) : a ≤ b := by
  by_cases e : a ≤ b
  · exact e
  · have := Rat.mul_lt_mul_of_pos_right (a := b) (b := a) (by grind) hc; grind
theorem div_le {a b c : Rat} (hb : 0 < b) (h : a ≤ c * b) : a / b ≤ c := by
  apply le_of_mul (c := b) _ hb
  rw [div_mul (by grind)]; exact h
/-- pool P of k kinds; n users with demands D, weights W, caps C -/
structure Prob where
  n : Nat
  k : Nat
  P : Nat → Rat
  D : Nat → Nat → Rat
  W : Nat → Rat
  C : Nat → Rat

/-- amounts, demands and caps are not below 0, weights above 0 -/
structure Prob.Ok (p : Prob) : Prop where
  P0 : ∀ r, r < p.k → 0 ≤ p.P r
  D0 : ∀ i r, i < p.n → r < p.k → 0 ≤ p.D i r
  W0 : ∀ i, i < p.n → 0 < p.W i
  C0 : ∀ i, i < p.n → 0 ≤ p.C i

/-- g i: the tasks of user i by the level 1 -/
structure Rate (p : Prob) (g : Nat → Rat) : Prop where
  pos : ∀ i, i < p.n → 0 ≤ g i
  le : ∀ i r, i < p.n → r < p.k → 0 < p.D i r → g i * p.D i r ≤ p.W i * p.P r
  eq : ∀ i, i < p.n → ∃ r, r < p.k ∧ 0 < p.D i r ∧ g i * p.D i r = p.W i * p.P r

def used (p : Prob) (x : Nat → Rat) (r : Nat) : Rat := sumN (fun i => x i * p.D i r) p.n

structure Borne (p : Prob) (x : Nat → Rat) : Prop where
  low : ∀ i, i < p.n → 0 ≤ x i
  cap : ∀ i, i < p.n → x i ≤ p.C i
  pool : ∀ r, r < p.k → used p x r ≤ p.P r

/-- kind r holds user i -/
def Held (p : Prob) (g x : Nat → Rat) (i r : Nat) : Prop := 0 < p.D i r ∧ used p x r = p.P r ∧ ∀ j, j < p.n → 0 < p.D j r → x j / g j ≤ x i / g i

structure FairFill (p : Prob) (g x : Nat → Rat) : Prop extends Borne p x where
  none : ∀ i, i < p.n → g i = 0 → x i = 0
  stop : ∀ i, i < p.n → x i = p.C i ∨ ∃ r, r < p.k ∧ Held p g x i r

theorem lev_nonneg {p : Prob} {g x : Nat → Rat} (hg : Rate p g) (hx : Borne p x) {i : Nat} (hi : i < p.n) : 0 ≤ x i / g i := div_nonneg (hx.low i hi) (hg.pos i hi)
theorem lev_mul {p : Prob} {g x : Nat → Rat} (hx : FairFill p g x) {i : Nat} (hi : i < p.n) : x i / g i * g i = x i := by
  by_cases h : g i = 0
  · rw [h, hx.none i hi h]; simp
  · exact div_mul h

theorem rate_zero {p : Prob} (ho : p.Ok) {g : Nat → Rat} (hg : Rate p g) {i r : Nat} (hi : i < p.n) (hr : r < p.k) (hD : 0 < p.D i r) (hP : p.P r = 0) : g i = 0 := by
  have h1 := hg.le i r hi hr hD
  have h2 := hg.pos i hi
  rw [hP] at h1
  have h3 : p.W i * 0 = 0 := by grind
  rw [h3] at h1
  by_cases h : g i = 0
  · exact h
  · have := Rat.mul_pos (a := g i) (b := p.D i r) (by grind) hD; grind

theorem part_le {p : Prob} {g x : Nat → Rat} (ho : p.Ok) (hg : Rate p g) (hx : FairFill p g x) {j r : Nat} (hj : j < p.n) (hr : r < p.k) : x j * p.D j r ≤ x j / g j * (p.W j * p.P r) := by
  have hl := lev_nonneg hg hx.toBorne hj
  have hP := ho.P0 r hr
  have hW := ho.W0 j hj
  by_cases hD : 0 < p.D j r
  · have h1 := hg.le j r hj hr hD
    have h2 := mul_le_left h1 hl
    have h3 := lev_mul hx hj
    calc x j * p.D j r = (x j / g j * g j) * p.D j r := by rw [h3]
      _ = x j / g j * (g j * p.D j r) := by grind
      _ ≤ _ := h2
  · have : p.D j r = 0 := by have := ho.D0 j r hj hr; grind
    rw [this]
    have := Rat.mul_nonneg hl (Rat.mul_nonneg (a := p.W j) (b := p.P r) (by grind) hP)
    grind

/-- NOBODY GETS LESS than out of its weight's part of the pool -/
theorem alone {p : Prob} {g x : Nat → Rat} (ho : p.Ok) (hg : Rate p g) (hx : FairFill p g x) {i : Nat} (hi : i < p.n) :
    p.C i ≤ x i ∨ ∃ r, r < p.k ∧ 0 < p.D i r ∧ p.P r * p.W i / sumN p.W p.n / p.D i r ≤ x i := by
  have hS : 0 < sumN p.W p.n := by
    have h1 := le_sumN (f := p.W) (n := p.n) (fun j hj => by have := ho.W0 j hj; grind) hi
    have h2 := ho.W0 i hi; grind
  rcases hx.stop i hi with e | ⟨r, hr, hD, hu, hl⟩
  · left; grind
  · right
    have hxi := hx.low i hi
    by_cases hP : p.P r = 0
    · refine ⟨r, hr, hD, ?_⟩
      rw [hP]
      have e2 : 0 * p.W i / sumN p.W p.n / p.D i r = 0 := by rw [Rat.div_def, Rat.div_def]; grind
      rw [e2]; exact hxi
    · have hP0 : 0 < p.P r := by have := ho.P0 r hr; grind
      obtain ⟨s, hs, hDs, he⟩ := hg.eq i hi
      refine ⟨s, hs, hDs, ?_⟩
      have hle : used p x r ≤ sumN (fun j => x i / g i * p.P r * p.W j) p.n := by
        apply sumN_le
        intro j hj
        have hWj := ho.W0 j hj
        by_cases hDj : 0 < p.D j r
        · have h1 := part_le ho hg hx hj hr
          have h2 := mul_le_right (hl j hj hDj) (Rat.mul_nonneg (a := p.W j) (b := p.P r) (by grind) (by grind))
          have : x i / g i * p.P r * p.W j = x i / g i * (p.W j * p.P r) := by grind
          rw [this]; exact Rat.le_trans h1 h2
        · have e : p.D j r = 0 := by have := ho.D0 j r hj hr; grind
          simp only [e]
          have h5 := lev_nonneg hg hx.toBorne hi
          have := Rat.mul_nonneg (Rat.mul_nonneg h5 (show 0 ≤ p.P r by grind)) (show 0 ≤ p.W j by grind)
          grind
      rw [hu, sumN_mul] at hle
      have h1 : 1 ≤ x i / g i * sumN p.W p.n := by
        apply le_of_mul (c := p.P r) _ hP0
        grind
      apply div_le hDs
      apply div_le hS
      have h3 := lev_mul hx hi
      have h4 := mul_le_right h1 (Rat.mul_nonneg (hg.pos i hi) (show 0 ≤ p.D i s by grind))
      have h5 : x i / g i * sumN p.W p.n * (g i * p.D i s) = x i * p.D i s * sumN p.W p.n := by
        calc _ = (x i / g i * g i) * p.D i s * sumN p.W p.n := by grind
          _ = _ := by rw [h3]
      rw [h5] at h4
      grind

end Go.Proofs.YtigokanoflkinaaDoor.Por

/- What users are due has one denominator, which is not too great. -/
namespace Go.Proofs.YtigokanoflkinaaDoor.Por
set_option linter.unusedVariables false

def isInt (q : Rat) : Prop := ∃ z : Int, q = (z : Rat)
theorem isInt.add {a b : Rat} (ha : isInt a) (hb : isInt b) : isInt (a + b) := by
  obtain ⟨x, rfl⟩ := ha; obtain ⟨y, rfl⟩ := hb
  exact ⟨x + y, by rw [Rat.intCast_add]⟩
theorem isInt.mul {a b : Rat} (ha : isInt a) (hb : isInt b) : isInt (a * b) := by
  obtain ⟨x, rfl⟩ := ha; obtain ⟨y, rfl⟩ := hb
  exact ⟨x * y, by rw [Rat.intCast_mul]⟩
theorem isInt.zero : isInt 0 := ⟨0, rfl⟩
theorem isInt.sum {f : Nat → Rat} {n : Nat} (h : ∀ i, i < n → isInt (f i)) : isInt (sumN f n) := by
  induction n with
  | zero => exact isInt.zero
  | succ n ih => exact (ih (fun i hi => h i (by omega))).add (h n (by omega))
theorem isInt.toNat {a : Rat} (ha : isInt a) (h0 : 0 ≤ a) : ∃ n : Nat, a = (n : Rat) := by
  obtain ⟨z, rfl⟩ := ha
  have h1 : (0 : Int) ≤ z := Rat.intCast_nonneg.1 h0
  obtain ⟨n, rfl⟩ := Int.eq_ofNat_of_zero_le h1
  exact ⟨n, rfl⟩

end Go.Proofs.YtigokanoflkinaaDoor.Por

/- How a filling goes on: what stays true while the level rises. -/
namespace Go.Proofs.YtigokanoflkinaaDoor.Por
set_option linter.unusedVariables false

/-- where the users stand: the level, by how much each grows (0: it is stopped), what each has, and at which level -/
structure St where
  lev : Rat
  rt : Nat → Rat
  ts : Nat → Rat
  lv : Nat → Rat

structure Inv (p : Prob) (g : Nat → Rat) (s : St) : Prop where
  lev0 : 0 ≤ s.lev
  grow : ∀ i, i < p.n → s.rt i ≠ 0 → s.rt i = g i ∧ s.ts i = g i * s.lev ∧ s.lv i = s.lev
  lvs : ∀ i, i < p.n → s.ts i = g i * s.lv i ∧ 0 ≤ s.lv i ∧ s.lv i ≤ s.lev ∧ (g i = 0 → s.lv i = 0 ∧ s.rt i = 0)
  stop : ∀ i, i < p.n → s.rt i = 0 → s.ts i = p.C i ∨ ∃ r, r < p.k ∧ 0 < p.D i r ∧ used p s.ts r = p.P r ∧ ∀ j, j < p.n → 0 < p.D j r → s.rt j = 0 ∧ s.lv j ≤ s.lv i
  borne : Borne p s.ts

/-- what each has when the level has risen to l -/
def tsAt (g : Nat → Rat) (s : St) (l : Rat) : Nat → Rat := fun i => if s.rt i = 0 then s.ts i else g i * l
def lvAt (s : St) (l : Rat) : Nat → Rat := fun i => if s.rt i = 0 then s.lv i else l

/-- the level rises to l; who then has its cap or wants what is used up stops -/
theorem Inv.step {p : Prob} {g : Nat → Rat} (ho : p.Ok) (hg : Rate p g) {s : St} (h : Inv p g s) (l : Rat) (hl : s.lev ≤ l) (hb : Borne p (tsAt g s l)) (rt' : Nat → Rat)
    (hr0 : ∀ i, i < p.n → s.rt i = 0 → rt' i = 0)
    (hr : ∀ i, i < p.n → s.rt i ≠ 0 → (rt' i = 0 ∧ (tsAt g s l i = p.C i ∨ ∃ r, r < p.k ∧ 0 < p.D i r ∧ used p (tsAt g s l) r = p.P r)) ∨ (rt' i = s.rt i ∧ ¬ (tsAt g s l i = p.C i ∨ ∃ r, r < p.k ∧ 0 < p.D i r ∧ used p (tsAt g s l) r = p.P r))) :
    Inv p g ⟨l, rt', tsAt g s l, lvAt s l⟩ := by
  refine ⟨by have := h.lev0; grind, ?_, ?_, ?_, hb⟩
  · intro i hi hne
    show rt' i = g i ∧ tsAt g s l i = g i * l ∧ lvAt s l i = l
    have h0 : s.rt i ≠ 0 := fun e => hne (hr0 i hi e)
    rcases hr i hi h0 with ⟨e, _⟩ | ⟨e, _⟩
    · exact absurd e hne
    · refine ⟨by rw [e]; exact (h.grow i hi h0).1, ?_, ?_⟩
      · unfold tsAt; rw [if_neg h0]
      · unfold lvAt; rw [if_neg h0]
  · intro i hi
    show tsAt g s l i = g i * lvAt s l i ∧ 0 ≤ lvAt s l i ∧ lvAt s l i ≤ l ∧ (g i = 0 → lvAt s l i = 0 ∧ rt' i = 0)
    obtain ⟨h1, h2, h3, h4⟩ := h.lvs i hi
    have h5 := h.lev0
    by_cases e : s.rt i = 0
    · unfold tsAt lvAt
      rw [if_pos e, if_pos e]
      exact ⟨h1, h2, by grind, fun h0 => ⟨(h4 h0).1, hr0 i hi e⟩⟩
    · unfold tsAt lvAt
      rw [if_neg e, if_neg e]
      exact ⟨rfl, by grind, Rat.le_refl, fun h0 => absurd (h4 h0).2 e⟩
  · intro i hi e
    show tsAt g s l i = p.C i ∨ ∃ r, r < p.k ∧ 0 < p.D i r ∧ used p (tsAt g s l) r = p.P r ∧ ∀ j, j < p.n → 0 < p.D j r → rt' j = 0 ∧ lvAt s l j ≤ lvAt s l i
    by_cases e0 : s.rt i = 0
    · rcases h.stop i hi e0 with h1 | ⟨r, hrk, hD, hu, hj⟩
      · left; unfold tsAt; rw [if_pos e0]; exact h1
      · right
        refine ⟨r, hrk, hD, ?_, ?_⟩
        · rw [← hu]
          apply sumN_congr
          intro j hjn
          show tsAt g s l j * p.D j r = s.ts j * p.D j r
          by_cases hDj : 0 < p.D j r
          · unfold tsAt; rw [if_pos (hj j hjn hDj).1]
          · have : p.D j r = 0 := by have := ho.D0 j r hjn hrk; grind
            rw [this, Rat.mul_zero, Rat.mul_zero]
        · intro j hjn hDj
          obtain ⟨h1, h2⟩ := hj j hjn hDj
          refine ⟨hr0 j hjn h1, ?_⟩
          unfold lvAt; rw [if_pos h1, if_pos e0]; exact h2
    · rcases hr i hi e0 with ⟨_, h1⟩ | ⟨h1, _⟩
      · rcases h1 with h1 | ⟨r, hrk, hD, hu⟩
        · left; exact h1
        · right
          refine ⟨r, hrk, hD, hu, fun j hjn hDj => ?_⟩
          have hl' : lvAt s l i = l := by unfold lvAt; rw [if_neg e0]
          rw [hl']
          by_cases ej : s.rt j = 0
          · refine ⟨hr0 j hjn ej, ?_⟩
            unfold lvAt; rw [if_pos ej]
            have := (h.lvs j hjn).2.2.1; grind
          · refine ⟨?_, by unfold lvAt; rw [if_neg ej]; exact Rat.le_refl⟩
            rcases hr j hjn ej with ⟨e2, _⟩ | ⟨_, h2⟩
            · exact e2
            · exact absurd (Or.inr ⟨r, hrk, hDj, hu⟩) h2
      · have e' : rt' i = 0 := e
        rw [e'] at h1; exact absurd h1.symm e0

theorem Inv.first {p : Prob} {g : Nat → Rat} (ho : p.Ok) (hg : Rate p g) (rt : Nat → Rat) (h : ∀ i, i < p.n → rt i = g i ∨ (rt i = 0 ∧ p.C i = 0)) : Inv p g ⟨0, rt, fun _ => 0, fun _ => 0⟩ := by
  have hu : ∀ r, used p (fun _ => 0) r = 0 := fun r => sumN_zero (fun i _ => by grind)
  refine ⟨Rat.le_refl, ?_, ?_, ?_, ?_⟩
  · intro i hi hne
    show rt i = g i ∧ (0 : Rat) = g i * 0 ∧ (0 : Rat) = 0
    rcases h i hi with e | e
    · exact ⟨e, by grind, rfl⟩
    · exact absurd e.1 hne
  · intro i hi
    refine ⟨by show (0 : Rat) = g i * 0; grind, Rat.le_refl, Rat.le_refl, fun h0 => ⟨rfl, ?_⟩⟩
    show rt i = 0
    rcases h i hi with e | e
    · rw [e]; exact h0
    · exact e.1
  · intro i hi e
    show (0 : Rat) = p.C i ∨ ∃ r, r < p.k ∧ 0 < p.D i r ∧ used p (fun _ => 0) r = p.P r ∧ ∀ j, j < p.n → 0 < p.D j r → rt j = 0 ∧ (0 : Rat) ≤ 0
    have e' : rt i = 0 := e
    rcases h i hi with h1 | h1
    · right
      have hg0 : g i = 0 := by rw [← h1]; exact e'
      obtain ⟨r, hr, hD, he⟩ := hg.eq i hi
      rw [hg0] at he
      have hW := ho.W0 i hi
      have hP : p.P r = 0 := by
        by_cases e5 : p.P r = 0
        · exact e5
        · have := Rat.mul_pos hW (show 0 < p.P r by have := ho.P0 r hr; grind); grind
      refine ⟨r, hr, hD, by rw [hu, hP], fun j hj hDj => ⟨?_, Rat.le_refl⟩⟩
      have := rate_zero ho hg hj hr hDj hP
      rcases h j hj with e5 | e5
      · rw [e5]; exact this
      · exact e5.1
    · left; exact h1.2.symm
  · exact ⟨fun i hi => Rat.le_refl, fun i hi => ho.C0 i hi, fun r hr => by
      show used p (fun _ => 0) r ≤ p.P r
      rw [hu]; exact ho.P0 r hr⟩

theorem Inv.last {p : Prob} {g : Nat → Rat} {s : St} (hg : Rate p g) (h : Inv p g s) (hz : ∀ i, i < p.n → s.rt i = 0) : FairFill p g s.ts ∧ ∀ i, i < p.n → s.lv i = s.ts i / g i := by
  have hlv : ∀ i, i < p.n → s.lv i = s.ts i / g i := fun i hi => by
    obtain ⟨h1, h2, h3, h4⟩ := h.lvs i hi
    by_cases e : g i = 0
    · rw [(h4 e).1, h1, e, Rat.div_def]; grind
    · rw [h1]; grind
  refine ⟨⟨h.borne, fun i hi e => ?_, fun i hi => ?_⟩, hlv⟩
  · rw [(h.lvs i hi).1, e]; grind
  · rcases h.stop i hi (hz i hi) with h1 | ⟨r, hr, hD, hu, hj⟩
    · left; exact h1
    · right
      refine ⟨r, hr, hD, hu, fun j hjn hDj => ?_⟩
      rw [← hlv j hjn, ← hlv i hi]
      exact (hj j hjn hDj).2

/-- what is used when the level has risen -/
theorem used_at {p : Prob} {g : Nat → Rat} {s : St} (h : Inv p g s) (d : Rat) (r : Nat) : used p (tsAt g s (s.lev + d)) r = used p s.ts r + d * used p s.rt r := by
  unfold used
  rw [← sumN_mul, ← sumN_add]
  apply sumN_congr
  intro i hi
  show tsAt g s (s.lev + d) i * p.D i r = s.ts i * p.D i r + d * (s.rt i * p.D i r)
  unfold tsAt
  by_cases e : s.rt i = 0
  · rw [if_pos e, e]; grind
  · rw [if_neg e]
    obtain ⟨h1, h2, h3⟩ := h.grow i hi e
    rw [h1, h2]; grind

theorem ts_at {p : Prob} {g : Nat → Rat} {s : St} (h : Inv p g s) (d : Rat) {i : Nat} (hi : i < p.n) : tsAt g s (s.lev + d) i = s.ts i + s.rt i * d := by
  unfold tsAt
  by_cases e : s.rt i = 0
  · rw [if_pos e, e]; grind
  · rw [if_neg e]
    obtain ⟨h1, h2, h3⟩ := h.grow i hi e
    rw [h1, h2]; grind

theorem rt_nonneg {p : Prob} {g : Nat → Rat} (hg : Rate p g) {s : St} (h : Inv p g s) {i : Nat} (hi : i < p.n) : 0 ≤ s.rt i := by
  by_cases e : s.rt i = 0
  · rw [e]; exact Rat.le_refl
  · rw [(h.grow i hi e).1]; exact hg.pos i hi

theorem speed_nonneg {p : Prob} {g : Nat → Rat} (ho : p.Ok) (hg : Rate p g) {s : St} (h : Inv p g s) {r : Nat} (hr : r < p.k) : 0 ≤ used p s.rt r :=
  sumN_nonneg (fun i hi => Rat.mul_nonneg (rt_nonneg hg h hi) (ho.D0 i r hi hr))

/-- the least way that the level rises till something stops -/
structure Least (p : Prob) (s : St) (d : Rat) : Prop where
  caps : ∀ i, i < p.n → s.rt i ≠ 0 → d * s.rt i ≤ p.C i - s.ts i
  kinds : ∀ r, r < p.k → used p s.rt r ≠ 0 → d * used p s.rt r ≤ p.P r - used p s.ts r
  some : (∃ i, i < p.n ∧ s.rt i ≠ 0 ∧ d * s.rt i = p.C i - s.ts i) ∨ (∃ r, r < p.k ∧ used p s.rt r ≠ 0 ∧ d * used p s.rt r = p.P r - used p s.ts r)

theorem Least.pos {p : Prob} {g : Nat → Rat} (ho : p.Ok) (hg : Rate p g) {s : St} (h : Inv p g s) {d : Rat} (hd : Least p s d) : 0 ≤ d := by
  rcases hd.some with ⟨i, hi, hne, he⟩ | ⟨r, hr, hne, he⟩
  · have h1 := rt_nonneg hg h hi
    have h2 := h.borne.cap i hi
    apply le_of_mul (c := s.rt i) _ (by grind)
    grind
  · have h1 := speed_nonneg ho hg h hr
    have h2 := h.borne.pool r hr
    apply le_of_mul (c := used p s.rt r) _ (by grind)
    grind

theorem Least.borne {p : Prob} {g : Nat → Rat} (ho : p.Ok) (hg : Rate p g) {s : St} (h : Inv p g s) {d : Rat} (hd : Least p s d) : Borne p (tsAt g s (s.lev + d)) := by
  have h0 := hd.pos ho hg h
  refine ⟨fun i hi => ?_, fun i hi => ?_, fun r hr => ?_⟩
  · rw [ts_at h d hi]
    have h1 := h.borne.low i hi
    have h2 := Rat.mul_nonneg (rt_nonneg hg h hi) h0
    grind
  · rw [ts_at h d hi]
    by_cases e : s.rt i = 0
    · rw [e]; have := h.borne.cap i hi; grind
    · have := hd.caps i hi e; grind
  · rw [used_at h d r]
    by_cases e : used p s.rt r = 0
    · rw [e]; have := h.borne.pool r hr; grind
    · have := hd.kinds r hr e; grind

/-- somebody stops -/
theorem Least.stops {p : Prob} {g : Nat → Rat} (ho : p.Ok) {s : St} (h : Inv p g s) {d : Rat} (hd : Least p s d) :
    ∃ i, i < p.n ∧ s.rt i ≠ 0 ∧ (tsAt g s (s.lev + d) i = p.C i ∨ ∃ r, r < p.k ∧ 0 < p.D i r ∧ used p (tsAt g s (s.lev + d)) r = p.P r) := by
  rcases hd.some with ⟨i, hi, hne, he⟩ | ⟨r, hr, hne, he⟩
  · refine ⟨i, hi, hne, Or.inl ?_⟩
    rw [ts_at h d hi]; grind
  · have : ∃ i, i < p.n ∧ s.rt i * p.D i r ≠ 0 := by
      apply Classical.byContradiction
      intro hn
      apply hne
      apply sumN_zero
      intro i hi
      apply Classical.byContradiction
      intro h5
      exact hn ⟨i, hi, h5⟩
    obtain ⟨i, hi, h5⟩ := this
    have h6 : s.rt i ≠ 0 := fun e => h5 (by rw [e, Rat.zero_mul])
    have h7 : p.D i r ≠ 0 := fun e => h5 (by rw [e, Rat.mul_zero])
    refine ⟨i, hi, h6, Or.inr ⟨r, hr, by have := ho.D0 i r hi hr; grind, ?_⟩⟩
    rw [used_at h d r]; grind
end Go.Proofs.YtigokanoflkinaaDoor.Por

/- How the program lets the level rise: a rise stops somebody, and in the end all are stopped. -/
namespace Go.Proofs.YtigokanoflkinaaDoor.Por
set_option linter.unusedVariables false

def rq (l : List Rat) (i : Nat) : Rat := l.getD i 0
/-- the least of the first m, by looking through them -/
def leastN (l : List Rat) : Nat → Rat
  | 0 => rq l 0
  | m + 1 => if rq l m < leastN l m then rq l m else leastN l m
def leastL (l : List Rat) : Rat := leastN l l.length

theorem leastN_le (l : List Rat) (m : Nat) : ∀ i, i < m → leastN l m ≤ rq l i := by
  induction m with
  | zero => intro i hi; omega
  | succ m ih =>
    intro i hi
    simp only [leastN]
    by_cases e : i = m
    · subst e; split <;> grind
    · have := ih i (by omega)
      split <;> grind
theorem leastN_mem (l : List Rat) (m : Nat) (hm : m ≤ l.length) (h0 : 0 < l.length) : ∃ i, i < l.length ∧ leastN l m = rq l i := by
  induction m with
  | zero => exact ⟨0, h0, rfl⟩
  | succ m ih =>
    simp only [leastN]
    split
    · exact ⟨m, by omega, rfl⟩
    · exact ih (by omega)
theorem rq_mem {l : List Rat} {i : Nat} (h : i < l.length) : rq l i ∈ l := by
  unfold rq
  rw [List.getD_eq_getElem?_getD, List.getElem?_eq_getElem h]
  exact List.getElem_mem h
theorem mem_rq {l : List Rat} {v : Rat} (h : v ∈ l) : ∃ i, i < l.length ∧ rq l i = v := by
  obtain ⟨i, hi, e⟩ := List.getElem_of_mem h
  refine ⟨i, hi, ?_⟩
  unfold rq
  rw [List.getD_eq_getElem?_getD, List.getElem?_eq_getElem hi]
  exact e
theorem leastL_le {l : List Rat} {v : Rat} (h : v ∈ l) : leastL l ≤ v := by
  obtain ⟨i, hi, e⟩ := mem_rq h
  rw [← e]; exact leastN_le l _ i hi
theorem leastL_mem {l : List Rat} (h : l ≠ []) : leastL l ∈ l := by
  have h0 : 0 < l.length := List.length_pos_iff.2 h
  obtain ⟨i, hi, e⟩ := leastN_mem l l.length (Nat.le_refl _) h0
  unfold leastL
  rw [e]; exact rq_mem hi

theorem used_congr {p : Prob} {x y : Nat → Rat} (h : ∀ i, i < p.n → x i = y i) (r : Nat) : used p x r = used p y r := sumN_congr (fun i hi => by rw [h i hi])

theorem Inv.congr {p : Prob} {g : Nat → Rat} {s t : St} (h : Inv p g s) (hl : t.lev = s.lev) (h1 : ∀ i, i < p.n → t.rt i = s.rt i) (h2 : ∀ i, i < p.n → t.ts i = s.ts i) (h3 : ∀ i, i < p.n → t.lv i = s.lv i) : Inv p g t := by
  refine ⟨by rw [hl]; exact h.lev0, fun i hi => ?_, fun i hi => ?_, fun i hi => ?_, ⟨fun i hi => ?_, fun i hi => ?_, fun r hr => ?_⟩⟩
  · rw [h1 i hi, h2 i hi, h3 i hi, hl]; exact h.grow i hi
  · rw [h1 i hi, h2 i hi, h3 i hi, hl]; exact h.lvs i hi
  · rw [h1 i hi, h2 i hi, h3 i hi]
    intro e
    rcases h.stop i hi e with h5 | ⟨r, hr, hD, hu, hj⟩
    · left; exact h5
    · right
      refine ⟨r, hr, hD, by rw [used_congr h2]; exact hu, fun j hjn hDj => ?_⟩
      rw [h1 j hjn, h3 j hjn]; exact hj j hjn hDj
  · rw [h2 i hi]; exact h.borne.low i hi
  · rw [h2 i hi]; exact h.borne.cap i hi
  · rw [used_congr h2]; exact h.borne.pool r hr

end Go.Proofs.YtigokanoflkinaaDoor.Por

/- The denominators while the level rises. -/
namespace Go.Proofs.YtigokanoflkinaaDoor.Por
set_option linter.unusedVariables false

/-- all that is reckoned with has one denominator -/
structure Dens (p : Prob) (s : St) (Q : Nat) : Prop where
  ts : ∀ i, i < p.n → isInt (Q * s.ts i)
  lv : ∀ i, i < p.n → isInt (Q * s.lv i)
  lev : isInt (Q * s.lev)

end Go.Proofs.YtigokanoflkinaaDoor.Por

/- The reference in whole numbers: what it looks for and finds. -/
namespace Go.Proofs.YtigokanoflkinaaDoor.Por
set_option linter.unusedVariables false

def sumT (f : Nat → Nat) : Nat → Nat
  | 0 => 0
  | n + 1 => sumT f n + f n
/-- a problem in whole numbers -/
structure NProb where
  n : Nat
  k : Nat
  P : Nat → Nat
  D : Nat → Nat → Nat
  W : Nat → Nat
  C : Nat → Nat
/-- the state of the reference: who grows; what the others have, over q -/
structure RS where
  still : Nat → Bool
  hv : Nat → Nat
  q : Nat

def pullT (a : NProb) (gr : Nat → Nat) (R : RS) (r : Nat) : Nat := sumT (fun i => if R.still i then a.D i r * gr i else 0) a.n
/-- what is left behind the first m users -/
def leftT (a : NProb) (R : RS) (r : Nat) : Nat → Nat
  | 0 => a.P r * R.q
  | m + 1 => if R.still m then leftT a R r m else leftT a R r m - a.D m r * R.hv m
def lft (a : NProb) (R : RS) (r : Nat) : Nat := leftT a R r a.n

/-- n over s, and whether by a kind -/
def nextK (a : NProb) (gr : Nat → Nat) (R : RS) : Nat → Nat × Nat × Bool
  | 0 => (0, 0, false)
  | r + 1 => let x := nextK a gr R r
             if pullT a gr R r = 0 then x else if x.2.1 = 0 ∨ lft a R r * x.2.1 < x.1 * pullT a gr R r then (lft a R r, pullT a gr R r, true) else x
def nextU (a : NProb) (gr : Nat → Nat) (R : RS) (x0 : Nat × Nat × Bool) : Nat → Nat × Nat × Bool
  | 0 => x0
  | i + 1 => let x := nextU a gr R x0 i
             if R.still i then (if a.C i * R.q * x.2.1 < x.1 * gr i then (a.C i * R.q, gr i, false) else x) else x
def nextT (a : NProb) (gr : Nat → Nat) (R : RS) : Nat × Nat × Bool := nextU a gr R (nextK a gr R a.k) a.n

def stopT (a : NProb) (gr : Nat → Nat) (R : RS) (n s : Nat) (i : Nat) : Prop := a.C i * R.q * s = n * gr i ∨ ∃ r, r < a.k ∧ 0 < a.D i r ∧ lft a R r * s = n * pullT a gr R r

/-- one turn of the reference -/
structure TurnT (a : NProb) (gr : Nat → Nat) (R R' : RS) : Prop where
  still : ∀ i, i < a.n → (R'.still i = true ↔ R.still i = true ∧ ¬ stopT a gr R (nextT a gr R).1 (nextT a gr R).2.1 i)
  q : R'.q = if (nextT a gr R).2.2 then R.q * (nextT a gr R).2.1 else R.q
  hvs : ∀ i, i < a.n → R.still i = true → stopT a gr R (nextT a gr R).1 (nextT a gr R).2.1 i → R'.hv i = if (nextT a gr R).2.2 then (nextT a gr R).1 * gr i else a.C i * R'.q
  hvo : ∀ i, i < a.n → ¬ (R.still i = true ∧ stopT a gr R (nextT a gr R).1 (nextT a gr R).2.1 i) → R'.hv i = if (nextT a gr R).2.2 then R.hv i * (nextT a gr R).2.1 else R.hv i

structure Abs (a : NProb) (g : Nat → Rat) (s : St) (R : RS) : Prop where
  q : 0 < R.q
  still : ∀ i, i < a.n → (R.still i = true ↔ s.rt i ≠ 0)
  hv : ∀ i, i < a.n → R.still i = false → (R.hv i : Rat) = R.q * s.ts i
  hv0 : ∀ i, i < a.n → R.still i = true → R.hv i = 0

/-- what the look through kinds and caps finds -/
structure Found (a : NProb) (gr : Nat → Nat) (R : RS) (x : Nat × Nat × Bool) (K U : Nat) : Prop where
  pos : 0 < x.2.1
  kinds : ∀ r, r < K → pullT a gr R r ≠ 0 → x.1 * pullT a gr R r ≤ lft a R r * x.2.1
  caps : ∀ i, i < U → R.still i = true → x.1 * gr i ≤ a.C i * R.q * x.2.1
  isK : x.2.2 = true → ∃ r, r < K ∧ pullT a gr R r ≠ 0 ∧ x.1 = lft a R r ∧ x.2.1 = pullT a gr R r
  isU : x.2.2 = false → (∃ i, i < U ∧ R.still i = true ∧ x.1 = a.C i * R.q ∧ x.2.1 = gr i) ∧ ∀ r, r < K → pullT a gr R r ≠ 0 → x.1 * pullT a gr R r < lft a R r * x.2.1

end Go.Proofs.YtigokanoflkinaaDoor.Por

/- The reference: a turn of it is a rise of the level. -/
namespace Go.Proofs.YtigokanoflkinaaDoor.Por
set_option linter.unusedVariables false
end Go.Proofs.YtigokanoflkinaaDoor.Por
