/- Filled: what the levels, the sums and the stops are. -/
import Derived.Test.YtigokanoflkinaaDoorKConA
import Derived.Test.YtigokanoflkinaaDoorMBest
namespace Go.Proofs.YtigokanoflkinaaDoor
set_option linter.unusedSimpArgs false
set_option linter.unusedVariables false
open Go.RowKit Por

/-- the rank of so many tasks: a text, and whether all that is wanted is there -/
def RankIs (pool : List Int) (u : Usr) (t q : Rat) (o : Bool) : Prop :=
  (o = false ∧ q = 0 ∧ ((∃ r, r < pool.length ∧ lm u.dem r ≠ 0 ∧ lm pool r = 0) ∨ ∀ r, r < pool.length → lm u.dem r = 0)) ∨
  (o = true ∧ (∀ r, r < pool.length → lm u.dem r ≠ 0 → 0 < lm pool r) ∧ ∃ m : Nat, m < pool.length ∧ 0 < lm u.dem m ∧ 0 < lm pool m ∧ (∀ r, r < pool.length → lm u.dem r * lm pool m ≤ lm u.dem m * lm pool r) ∧ q = t * fr (lm u.dem m) (lm pool m * u.wt))

theorem rank_of {pool : List Int} {us : List Usr} (hg : Good us pool.length) (hpa : ∀ i, amtB (lm pool i) = true) {i : Nat} (hi : i < us.length) {m : Nat} (hm : m < pool.length) (hd : 0 < lm (ug us i).dem m) (hp : 0 < lm pool m)
    (hw : ∀ r, r < pool.length → lm (ug us i).dem r ≠ 0 → 0 < lm pool r) (hb : ∀ r, r < pool.length → lm (ug us i).dem r * lm pool m ≤ lm (ug us i).dem m * lm pool r) :
    rateU pool us pool.length i * ((lm (ug us i).dem m : Int) : Rat) = (((ug us i).wt : Int) : Rat) * ((lm pool m : Int) : Rat) := by
  have hR := prb_rate hg hpa
  obtain ⟨r, hr, hDr, er⟩ := hR.eq i hi
  have h1 := hR.le i m hi hm (int_pos.2 hd)
  have hdr : 0 < lm (ug us i).dem r := int_pos.1 hDr
  have hpr : 0 < lm pool r := hw r hr (by omega)
  have h2 := hb r hr
  have h3 : ((lm (ug us i).dem r : Int) : Rat) * ((lm pool m : Int) : Rat) ≤ ((lm (ug us i).dem m : Int) : Rat) * ((lm pool r : Int) : Rat) := by
    rw [← Rat.intCast_mul, ← Rat.intCast_mul]; exact int_le.2 h2
  have hg0 := hR.pos i hi
  refine Rat.le_antisymm h1 ?_
  change rateU pool us pool.length i * ((lm (ug us i).dem r : Int) : Rat) = (((ug us i).wt : Int) : Rat) * ((lm pool r : Int) : Rat) at er
  have hp0 : (0 : Rat) < ((lm pool r : Int) : Rat) := int_pos.2 hpr
  refine le_of_mul (c := ((lm pool r : Int) : Rat)) ?_ hp0
  have h4 := mul_le_left h3 hg0
  generalize rateU pool us pool.length i = g at *
  generalize ((lm (ug us i).dem r : Int) : Rat) = a at *
  generalize ((lm (ug us i).dem m : Int) : Rat) = b at *
  generalize ((lm pool r : Int) : Rat) = c at *
  generalize ((lm pool m : Int) : Rat) = e at *
  generalize (((ug us i).wt : Int) : Rat) = v at *
  have e1 : g * (a * e) = v * c * e := by rw [← Rat.mul_assoc, er]
  grind

theorem rank_lv {pool : List Int} {us : List Usr} (hg : Good us pool.length) (hpa : ∀ i, amtB (lm pool i) = true) {i : Nat} (hi : i < us.length) {q : Rat} {o : Bool} (h : RankIs pool (ug us i) ((endS pool us).ts i) q o) :
    q = (endS pool us).lv i ∧ (o = false → (endS pool us).ts i = 0) := by
  obtain ⟨hf, hl⟩ := endS_fair hg hpa
  have hli := hl i hi
  rcases h with ⟨ho, hq, h⟩ | ⟨ho, hw, m, hm, hd, hp, hb, hq⟩
  · have hz : (endS pool us).ts i = 0 := by
      rcases h with ⟨r, hr, h1, h2⟩ | h
      · have hdr := (amt_rng (hg.dem hi r)).1
        have hP : (prb pool us).P r = 0 := by show ((lm pool r : Int) : Rat) = 0; rw [h2]; rfl
        exact hf.none i hi (rate_zero (prb_ok hg hpa) (prb_rate hg hpa) hi hr (int_pos.2 (by omega)) hP)
      · obtain ⟨r, hr, h1⟩ := hg.some hi
        have := h r hr; omega
    refine ⟨?_, fun _ => hz⟩
    rw [hq, hli, hz]
    simp [Rat.div_def]
  · refine ⟨?_, fun h => by rw [h] at ho; cases ho⟩
    have e := rank_of hg hpa hi hm hd hp hw hb
    have hwt := hg.wt hi
    have hwp : 0 < lm pool m * (ug us i).wt := Int.mul_pos hp (by omega)
    rw [hq, hli]
    unfold fr
    rw [if_neg (by omega), Rat.intCast_mul]
    have h1 : ((lm (ug us i).dem m : Int) : Rat) ≠ 0 := int_rat_zero (by omega)
    have h2 : ((lm pool m : Int) : Rat) ≠ 0 := int_rat_zero (by omega)
    have h3 : (((ug us i).wt : Int) : Rat) ≠ 0 := int_rat_zero (by omega)
    have h4 : rateU pool us pool.length i ≠ 0 := by
      intro h0; rw [h0, Rat.zero_mul] at e
      have := Rat.mul_eq_zero.1 e.symm
      rcases this with h | h
      · exact h3 h
      · exact h2 h
    generalize rateU pool us pool.length i = g at *
    generalize ((lm (ug us i).dem m : Int) : Rat) = b at *
    generalize ((lm pool m : Int) : Rat) = c at *
    generalize (((ug us i).wt : Int) : Rat) = v at *
    generalize (endS pool us).ts i = t at *
    grind

theorem dg_of_le {q : Rat} {k : Nat} {a b : Nat} (h1 : q.num.natAbs ≤ a) (h2 : q.den ≤ b) (ha : a < 10 ^ k) (hb : b < 10 ^ k) : Dg q k := ⟨Nat.lt_of_le_of_lt h1 ha, Nat.lt_of_le_of_lt h2 hb⟩
theorem rate_dg {pool : List Int} {us : List Usr} (hg : Good us pool.length) (hpa : ∀ i, amtB (lm pool i) = true) (hn : us.length ≤ 6) {i : Nat} (hi : i < us.length) : Dg (rateU pool us pool.length i) 11 := by
  obtain ⟨G, _, _, _, h⟩ := rates_den hg hn
  obtain ⟨q, hq0, hq1, hq⟩ := h i hi
  obtain ⟨h1, h2⟩ := den_of hq0 hq ((prb_rate hg hpa).pos i hi) (rate_le hg hpa hi)
  have : q * 1000000 ≤ 10000 * 1000000 := Nat.mul_le_mul_right _ hq1
  exact dg_of_le h1 h2 (by omega) (by omega)
theorem lv_dg {pool : List Int} {us : List Usr} (hg : Good us pool.length) (hpa : ∀ i, amtB (lm pool i) = true) (hn : us.length ≤ 6) (hk : pool.length ≤ 4) {i : Nat} (hi : i < us.length) : Dg ((endS pool us).lv i) 139 := by
  obtain ⟨hf, hl⟩ := endS_fair hg hpa
  rw [hl i hi]
  by_cases h0 : rateU pool us pool.length i = 0
  · rw [h0]
    have : (endS pool us).ts i / 0 = 0 := by simp [Rat.div_def]
    rw [this]; unfold Dg; exact ⟨Nat.pow_pos (by decide), Nat.one_lt_pow (by decide) (by decide)⟩
  · exact (due_dg hg hpa hn hk hi).div (rate_dg hg hpa hn hi) h0
theorem sumN_int {f : Nat → Rat} {Q : Nat} : ∀ n, (∀ i, i < n → isInt (Q * f i)) → isInt (Q * sumN f n) := by
  intro n
  induction n with
  | zero => intro _; exact ⟨0, by simp [sumN]⟩
  | succ n ih =>
    intro h
    obtain ⟨a, ha⟩ := ih (fun i hi => h i (by omega))
    obtain ⟨b, hb⟩ := h n (by omega)
    refine ⟨a + b, ?_⟩
    simp only [sumN]
    rw [Rat.mul_add, ha, hb, Rat.intCast_add]
theorem sumN_part {f : Nat → Rat} {n : Nat} (h : ∀ i, i < n → 0 ≤ f i) : ∀ j, j ≤ n → sumN f j ≤ sumN f n := by
  induction n with
  | zero => intro j hj; obtain rfl : j = 0 := by omega
            exact Rat.le_refl
  | succ n ih =>
    intro j hj
    by_cases e : j = n + 1
    · subst e; exact Rat.le_refl
    · have h1 := ih (fun i hi => h i (by omega)) j (by omega)
      have h2 := h n (by omega)
      simp only [sumN]
      grind
theorem big_bound5 : (10000 ^ 6 * 6000000) ^ 4 * 10000 < 10 ^ 128 := by decide
theorem part_dg {pool : List Int} {us : List Usr} (hg : Good us pool.length) (hpa : ∀ i, amtB (lm pool i) = true) (hn : us.length ≤ 6) (hk : pool.length ≤ 4) {r : Nat} (hr : r < pool.length) : ∀ j, j ≤ us.length → Dg (totF us (endS pool us).ts r j) 128 := by
  intro j hj
  obtain ⟨G, hG0, hGb, hGi, _⟩ := rates_den hg hn
  have hf := (endS_fair hg hpa).1
  obtain ⟨Q, hQ0, hQb, hQi⟩ := den_all (prb_ok hg hpa) (prb_rate hg hpa) hf (fun i hi => ⟨_, rfl⟩) (fun i r hi hr => ⟨_, rfl⟩) (fun r hr => ⟨_, rfl⟩) G 6000000 hG0 (by decide) hGi (fun r hr => sumW_le hg hpa hn hr)
  have hnn : ∀ i, i < us.length → 0 ≤ (endS pool us).ts i * dm us i r := fun i hi => Rat.mul_nonneg (hf.low i hi) (int_nonneg (amt_rng (hg.dem hi r)).1)
  have h0 : 0 ≤ totF us (endS pool us).ts r j := sumN_nonneg (fun i hi => hnn i (by omega))
  have h1 : totF us (endS pool us).ts r j ≤ ((10000 : Nat) : Rat) := by
    refine Rat.le_trans (sumN_part hnn j hj) (Rat.le_trans (hf.pool r hr) ?_)
    exact (int_le (b := 10000)).2 (amt_rng (hpa r)).2
  have hI : isInt (Q * totF us (endS pool us).ts r j) := sumN_int j (fun i hi => by
    obtain ⟨a, ha⟩ := hQi i (by show i < us.length; omega)
    refine ⟨a * lm (ug us i).dem r, ?_⟩
    rw [← Rat.mul_assoc, ha, Rat.intCast_mul])
  obtain ⟨h2, h3⟩ := den_of hQ0 hI h0 h1
  have hb := big_bound5
  have hQB := Nat.le_trans hQb (pow_bound4 (m := (prb pool us).k) hG0 hGb hk)
  generalize (10000 ^ 6 * 6000000) ^ 4 = B at hQB hb
  have h4 : Q * 10000 ≤ B * 10000 := Nat.mul_le_mul_right _ hQB
  have h5 : B ≤ B * 10000 := Nat.le_mul_of_pos_right B (by decide)
  exact ⟨Nat.lt_of_le_of_lt (Nat.le_trans h2 h4) hb, Nat.lt_of_le_of_lt (Nat.le_trans h3 (Nat.le_trans hQB h5)) hb⟩

/-- does kind r stop user i? -/
def HoldsB (d : FD) (s : St) (r i : Nat) : Prop := 0 < lm (ug d.us i).dem r ∧ upB d s.ts r = true ∧ highB d s.lv i r d.n = true
def hB (d : FD) (s : St) (r i : Nat) : Bool := decide (0 < lm (ug d.us i).dem r) && upB d s.ts r && highB d s.lv i r d.n
theorem hB_iff {d : FD} {s : St} {r i : Nat} : hB d s r i = true ↔ HoldsB d s r i := by
  unfold hB HoldsB; simp [and_assoc]
theorem hB_parts {d : FD} {s : St} {r i : Nat} {a b c : Bool} (h1 : decide (0 < lm (ug d.us i).dem r) = a) (h2 : upB d s.ts r = b) (h3 : highB d s.lv i r d.n = c) : hB d s r i = (a && b && c) := by
  unfold hB; rw [h1, h2, h3]
theorem upB_of {pool : List Int} {us : List Usr} {d : FD} (ho : d.Of pool us) (f : Nat → Rat) (r : Nat) : upB d f r = decide (totF us f r us.length = ((lm pool r : Int) : Rat)) := by
  unfold upB; rw [ho.us, ho.n, ho.room]; rfl
theorem highB_step {d : FD} {lv : Nat → Rat} {i r j : Nat} (h : highB d lv i r j = true) (h2 : ¬ (0 < lm (ug d.us j).dem r ∧ lv i < lv j)) : highB d lv i r (j + 1) = true := by
  simp only [highB]
  rw [h, Bool.true_and, Bool.not_eq_true', ← Bool.not_eq_true, Bool.and_eq_true, decide_eq_true_eq, decide_eq_true_eq]
  exact h2
theorem highB_iff {d : FD} {lv : Nat → Rat} {i r : Nat} : ∀ m, highB d lv i r m = true ↔ ∀ j, j < m → 0 < lm (ug d.us j).dem r → lv j ≤ lv i := by
  intro m
  induction m with
  | zero => simp [highB]
  | succ m ih =>
    simp only [highB, Bool.and_eq_true, Bool.not_eq_true', Bool.and_eq_false_iff, decide_eq_false_iff_not]
    rw [ih]
    constructor
    · rintro ⟨h1, h2⟩ j hj h3
      by_cases e : j = m
      · subst e
        rcases h2 with h2 | h2
        · exact absurd h3 h2
        · exact Rat.not_lt.1 h2
      · exact h1 j (by omega) h3
    · intro h
      refine ⟨fun j hj => h j (by omega), ?_⟩
      by_cases h3 : 0 < lm (ug d.us m).dem r
      · right; exact Rat.not_lt.2 (h m (by omega) h3)
      · left; exact h3
theorem stop_some {pool : List Int} {us : List Usr} {d : FD} (ho : d.Of pool us) (hg : Good us pool.length) (hpa : ∀ i, amtB (lm pool i) = true) {i : Nat} (hi : i < us.length) (hc : (endS pool us).ts i ≠ (((ug us i).cap : Int) : Rat)) : ∃ r, r < pool.length ∧ HoldsB d (endS pool us) r i := by
  obtain ⟨hf, hl⟩ := endS_fair hg hpa
  rcases hf.stop i hi with h | ⟨r, hr, h1, h2, h3⟩
  · exact absurd h hc
  · refine ⟨r, hr, ?_, ?_, ?_⟩
    · rw [ho.us]; exact int_pos.1 h1
    · unfold upB
      rw [decide_eq_true_eq, tot_used ho, ho.room]; exact h2
    · rw [highB_iff]
      intro j hj h5
      rw [ho.n] at hj
      rw [ho.us] at h5
      rw [hl j hj, hl i hi]
      exact h3 j hj (int_pos.2 h5)
theorem stopV_cap {d : FD} {s : St} {i : Nat} (h : s.ts i = (((ug d.us i).cap : Int) : Rat)) : stopV d s i = -1 := by
  unfold stopV capB; rw [decide_eq_true h]; rfl
theorem stopN_past {d : FD} {s : St} {i : Nat} : ∀ (r m k : Nat), (∀ j, k ≤ j → j < k + r → ¬ HoldsB d s j i) → stopN d s i k (r + m) = stopN d s i (k + r) m := by
  intro r
  induction r with
  | zero => intro m k _; simp
  | succ r ih =>
    intro m k h
    have e : r + 1 + m = (r + m) + 1 := by omega
    rw [e, stopN_next (h k (Nat.le_refl _) (by omega)), ih m (k + 1) (fun j h1 h2 => h j (by omega) (by omega))]
    congr 1; omega
theorem stopV_at {d : FD} {s : St} {i r : Nat} (hc : s.ts i ≠ (((ug d.us i).cap : Int) : Rat)) (hr : r < d.kk) (hno : ∀ j, j < r → ¬ HoldsB d s j i) (h : HoldsB d s r i) : stopV d s i = (r : Int) := by
  unfold stopV capB
  rw [decide_eq_false hc, if_neg (by simp)]
  obtain ⟨m, hm⟩ : ∃ m, d.kk = r + (m + 1) := ⟨d.kk - r - 1, by omega⟩
  rw [hm, stopN_past r (m + 1) 0 (fun j _ h2 => hno j (by omega)), Nat.zero_add]
  exact stopN_here h.1 h.2.1 h.2.2
end Go.Proofs.YtigokanoflkinaaDoor
