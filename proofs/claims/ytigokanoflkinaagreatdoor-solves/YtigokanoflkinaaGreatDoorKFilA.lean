/- Filled: what the levels, the sums and the stops are. -/
import Derived.Test.YtigokanoflkinaaGreatDoorKBun
import Derived.Test.YtigokanoflkinaaGreatDoorMBest
namespace Go.Proofs.YtigokanoflkinaaGreatDoor
set_option linter.unusedSimpArgs false
set_option linter.unusedVariables false
open Go.RowKit Por
theorem rank_of {pool : List Int} {us : List Usr} (hg : Good us pool.length) (hpa : ∀ i, amtB (lm pool i) = true) {i : Nat} (hi : i < us.length) {m : Nat} (hm : m < pool.length) (hd : 0 < lm (ug us i).dem m) (hp : 0 < lm pool m)
    (hw : ∀ r, r < pool.length → lm (ug us i).dem r ≠ 0 → 0 < lm pool r) (hb : ∀ r, r < pool.length → lm (ug us i).dem r * lm pool m ≤ lm (ug us i).dem m * lm pool r) :
    rateU pool us pool.length i * ((lm (ug us i).dem m : Int) : Rat) = (((ug us i).wt : Int) : Rat) * ((lm pool m : Int) : Rat) := by
  have hR := prb_rate hg hpa
  obtain ⟨r, hr, hDr, er⟩ := hR.eq i hi
  have h1 := hR.le i m hi hm (int_pos.2 hd)
  have hdr : 0 < lm (ug us i).dem r := int_pos.1 hDr
  have hpr : 0 < lm pool r := hw r hr (by omega)
  have h2 := hb r hr
  have h3 : ((lm (ug us i).dem r : Int) : Rat) * ((lm pool m : Int) : Rat) ≤ ((lm (ug us i).dem m : Int) : Rat) * ((lm pool r : Int) : Rat) := by
    rw [← Rat.intCast_mul, ← Rat.intCast_mul]; exact int_le.2 h2
  have hg0 := hR.pos i hi
  refine Rat.le_antisymm h1 ?_
  change rateU pool us pool.length i * ((lm (ug us i).dem r : Int) : Rat) = (((ug us i).wt : Int) : Rat) * ((lm pool r : Int) : Rat) at er
  have hp0 : (0 : Rat) < ((lm pool r : Int) : Rat) := int_pos.2 hpr
  refine le_of_mul (c := ((lm pool r : Int) : Rat)) ?_ hp0
  have h4 := mul_le_left h3 hg0
  generalize rateU pool us pool.length i = g at *
  generalize ((lm (ug us i).dem r : Int) : Rat) = a at *
  generalize ((lm (ug us i).dem m : Int) : Rat) = b at *
  generalize ((lm pool r : Int) : Rat) = c at *
  generalize ((lm pool m : Int) : Rat) = e at *
  generalize (((ug us i).wt : Int) : Rat) = v at *
  have e1 : g * (a * e) = v * c * e := by rw [← Rat.mul_assoc, er]
  grind

/-- does kind r stop user i? -/
def HoldsB (d : FD) (s : St) (r i : Nat) : Prop := 0 < lm (ug d.us i).dem r ∧ upB d s.ts r = true ∧ highB d s.lv i r d.n = true
def hB (d : FD) (s : St) (r i : Nat) : Bool := decide (0 < lm (ug d.us i).dem r) && upB d s.ts r && highB d s.lv i r d.n
theorem upB_of {pool : List Int} {us : List Usr} {d : FD} (ho : d.Of pool us) (f : Nat → Rat) (r : Nat) : upB d f r = decide (totF us f r us.length = ((lm pool r : Int) : Rat)) := by
  unfold upB; rw [ho.us, ho.n, ho.room]; rfl
theorem highB_iff {d : FD} {lv : Nat → Rat} {i r : Nat} : ∀ m, highB d lv i r m = true ↔ ∀ j, j < m → 0 < lm (ug d.us j).dem r → lv j ≤ lv i := by
  intro m
  induction m with
  | zero => simp [highB]
  | succ m ih =>
    simp only [highB, Bool.and_eq_true, Bool.not_eq_true', Bool.and_eq_false_iff, decide_eq_false_iff_not]
    rw [ih]
    constructor
    · rintro ⟨h1, h2⟩ j hj h3
      by_cases e : j = m
      · subst e
        rcases h2 with h2 | h2
        · exact absurd h3 h2
        · exact Rat.not_lt.1 h2
      · exact h1 j (by omega) h3
    · intro h
      refine ⟨fun j hj => h j (by omega), ?_⟩
      by_cases h3 : 0 < lm (ug d.us m).dem r
      · right; exact Rat.not_lt.2 (h m (by omega) h3)
      · left; exact h3
theorem stop_some {pool : List Int} {us : List Usr} {d : FD} (ho : d.Of pool us) (hg : Good us pool.length) (hpa : ∀ i, amtB (lm pool i) = true) {i : Nat} (hi : i < us.length) (hc : (endS pool us).ts i ≠ (((ug us i).cap : Int) : Rat)) : ∃ r, r < pool.length ∧ HoldsB d (endS pool us) r i := by
  obtain ⟨hf, hl⟩ := endS_fair hg hpa
  rcases hf.stop i hi with h | ⟨r, hr, h1, h2, h3⟩
  · exact absurd h hc
  · refine ⟨r, hr, ?_, ?_, ?_⟩
    · rw [ho.us]; exact int_pos.1 h1
    · unfold upB
      rw [decide_eq_true_eq, tot_used ho, ho.room]; exact h2
    · rw [highB_iff]
      intro j hj h5
      rw [ho.n] at hj
      rw [ho.us] at h5
      rw [hl j hj, hl i hi]
      exact h3 j hj (int_pos.2 h5)
theorem stopV_cap {d : FD} {s : St} {i : Nat} (h : s.ts i = (((ug d.us i).cap : Int) : Rat)) : stopV d s i = -1 := by
  unfold stopV capB; rw [decide_eq_true h]; rfl
theorem stopN_past {d : FD} {s : St} {i : Nat} : ∀ (r m k : Nat), (∀ j, k ≤ j → j < k + r → ¬ HoldsB d s j i) → stopN d s i k (r + m) = stopN d s i (k + r) m := by
  intro r
  induction r with
  | zero => intro m k _; simp
  | succ r ih =>
    intro m k h
    have e : r + 1 + m = (r + m) + 1 := by omega
    rw [e, stopN_next (h k (Nat.le_refl _) (by omega)), ih m (k + 1) (fun j h1 h2 => h j (by omega) (by omega))]
    congr 1; omega
theorem stopV_at {d : FD} {s : St} {i r : Nat} (hc : s.ts i ≠ (((ug d.us i).cap : Int) : Rat)) (hr : r < d.kk) (hno : ∀ j, j < r → ¬ HoldsB d s j i) (h : HoldsB d s r i) : stopV d s i = (r : Int) := by
  unfold stopV capB
  rw [decide_eq_false hc, if_neg (by simp)]
  obtain ⟨m, hm⟩ : ∃ m, d.kk = r + (m + 1) := ⟨d.kk - r - 1, by omega⟩
  rw [hm, stopN_past r (m + 1) 0 (fun j _ h2 => hno j (by omega)), Nat.zero_add]
  exact stopN_here h.1 h.2.1 h.2.2
end Go.Proofs.YtigokanoflkinaaGreatDoor
