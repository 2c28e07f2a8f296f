/- The program's rises are those of the maths; all that it reckons with is small. -/
import Derived.Test.YtigokanoflkinaaGreatDoorFBrg
namespace Go.Proofs.YtigokanoflkinaaGreatDoor
set_option linter.unusedSimpArgs false
set_option linter.unusedVariables false
open Go.RowKit Por

/-- the filling d is of this pool and these users -/
structure FD.Of (d : FD) (pool : List Int) (us : List Usr) : Prop where
  n : d.n = us.length
  us : d.us = us
  kk : d.kk = pool.length
  room : d.room = wholeF pool

theorem tot_used {pool : List Int} {us : List Usr} {d : FD} (h : d.Of pool us) (f : Nat → Rat) (r : Nat) : totF d.us f r d.n = used (prb pool us) f r := by
  rw [h.us, h.n]; rfl
theorem suL_eq {pool : List Int} {us : List Usr} {d : FD} (h : d.Of pool us) (s : St) : ∀ k, suL d s k = stU (prb pool us) s k := by
  intro k
  induction k with
  | zero => rfl
  | succ k ih => simp only [suL, stU]; rw [ih, h.us]; rfl
theorem skL_eq {pool : List Int} {us : List Usr} {d : FD} (h : d.Of pool us) (s : St) (l : List Rat) : ∀ k, skL d s l k = stK (prb pool us) s l k := by
  intro k
  induction k with
  | zero => rfl
  | succ k ih => simp only [skL, stK]; rw [ih, tot_used h, tot_used h, h.room]; rfl
theorem stepsF_eq {pool : List Int} {us : List Usr} {d : FD} (h : d.Of pool us) (s : St) : stepsF d s = stepsL (prb pool us) s := by
  unfold stepsF stepsL
  rw [skL_eq h, suL_eq h, h.n, h.kk]; rfl
theorem wantB_iff {dem : List Int} {f : Nat → Bool} : ∀ k, wantB dem f k = true ↔ ∃ r, r < k ∧ 0 < lm dem r ∧ f r = true := by
  intro k
  constructor
  · induction k with
    | zero => intro h; cases h
    | succ k ih =>
      intro h
      simp only [wantB, Bool.or_eq_true, Bool.and_eq_true, decide_eq_true_eq] at h
      rcases h with h | h
      · obtain ⟨r, h1, h2⟩ := ih h; exact ⟨r, by omega, h2⟩
      · exact ⟨k, by omega, h⟩
  · rintro ⟨r, h1, h2, h3⟩; exact wantB_true h1 h2 h3
theorem stB_iff {pool : List Int} {us : List Usr} {d : FD} (h : d.Of pool us) (ts : Nat → Rat) (i : Nat) : stB d ts i = true ↔ stopsB (prb pool us) ts i := by
  unfold stB stopsB capB
  rw [Bool.or_eq_true, wantB_iff, decide_eq_true_eq, h.us, h.kk]
  constructor
  · rintro (h1 | ⟨r, h1, h2, h3⟩)
    · exact Or.inl h1
    · refine Or.inr ⟨r, h1, int_pos.2 h2, ?_⟩
      unfold upB at h3
      rw [decide_eq_true_eq, tot_used h, h.room] at h3
      exact h3
  · rintro (h1 | ⟨r, h1, h2, h3⟩)
    · exact Or.inl h1
    · refine Or.inr ⟨r, h1, int_pos.1 h2, ?_⟩
      unfold upB
      rw [decide_eq_true_eq, tot_used h, h.room]
      exact h3
theorem rise_eq {pool : List Int} {us : List Usr} {d : FD} (h : d.Of pool us) {w0 w : World} {s : St} (hf : FS w0 d w (riseF d s (stepsF d s))) : FS w0 d w (riseS (prb pool us) s) := by
  classical
  rw [stepsF_eq h] at hf
  unfold riseF at hf
  unfold riseS
  by_cases e : stepsL (prb pool us) s = []
  · rw [if_pos (by rw [e]; rfl)] at hf
    rw [if_pos e]; exact hf
  · rw [if_neg (fun h5 => e (List.length_eq_zero_iff.1 h5)), leastF_rq] at hf
    rw [if_neg e]
    refine hf.congr rfl (fun i hi => ?_) (fun i hi => rfl) (fun i hi => rfl)
    show midRt d (upS s (leastL (stepsL (prb pool us) s))) d.n i = upRt (prb pool us) s (leastL (stepsL (prb pool us) s)) i
    unfold midRt upRt
    have hb := stB_iff h (upTs s (leastL (stepsL (prb pool us) s))) i
    by_cases e2 : stopsB (prb pool us) (upTs s (leastL (stepsL (prb pool us) s))) i
    · rw [if_pos e2, if_pos ⟨hi, hb.2 e2⟩]; rfl
    · rw [if_neg e2, if_neg (fun h5 => e2 (hb.1 h5.2))]; rfl

/-- where the program begins -/
def st0 (pool : List Int) (us : List Usr) : St := ⟨((0 : Int) : Rat), rateU pool us pool.length, zeroF, zeroF⟩
theorem st0_inv {pool : List Int} {us : List Usr} (hg : Good us pool.length) (hpa : ∀ i, amtB (lm pool i) = true) : Inv (prb pool us) (rateU pool us pool.length) (st0 pool us) :=
  Inv.first (prb_ok hg hpa) (prb_rate hg hpa) _ (fun i hi => Or.inl rfl)

theorem big_bound : (10000 ^ 6 * 6000000) ^ 6 * 1000 < 10000 ^ 60 := by decide
theorem pow_bound {G m : Nat} (hG : 0 < G) (h : G ≤ 10000 ^ 6) (hm : m ≤ 6) : (G * 6000000) ^ m ≤ (10000 ^ 6 * 6000000) ^ 6 := by
  have h1 : (G * 6000000) ^ m ≤ (G * 6000000) ^ 6 := Nat.pow_le_pow_right (by omega) hm
  have h2 : (G * 6000000) ^ 6 ≤ (10000 ^ 6 * 6000000) ^ 6 := Nat.pow_le_pow_left (Nat.mul_le_mul_right _ h) 6
  exact Nat.le_trans h1 h2

theorem sm_den {x : Rat} {Q M : Nat} (hQ : 0 < Q) (hQb : Q ≤ (10000 ^ 6 * 6000000) ^ 6) (h : isInt (Q * x)) (h0 : 0 ≤ x) (h1 : x ≤ (M : Rat)) (hM : M ≤ 1000) : Sm x 60 := by
  obtain ⟨h2, h3⟩ := den_of hQ h h0 h1
  have hb := big_bound
  generalize (10000 ^ 6 * 6000000) ^ 6 = B at hQb hb
  have h4 : Q * M ≤ B * 1000 := Nat.mul_le_mul hQb hM
  have h5 : B ≤ B * 1000 := Nat.le_mul_of_pos_right B (by decide)
  exact ⟨len_limbs_le (by omega), len_limbs_le (by omega)⟩

theorem rises_small {pool : List Int} {us : List Usr} {d : FD} (h : d.Of pool us) (hg : Good us pool.length) (hpa : ∀ i, amtB (lm pool i) = true) (hn : us.length ≤ 6) {m : Nat} (hm : m ≤ 6) : Small d (risesN (prb pool us) (st0 pool us) m) 60 := by
  obtain ⟨G, hG0, hGb, hGi, hq⟩ := rates_den hg hn
  have ho := prb_ok hg hpa
  have hr := prb_rate hg hpa
  have hi0 := st0_inv hg hpa
  have hW : ∀ i, i < (prb pool us).n → 1 ≤ (prb pool us).W i := fun i hi => (int_le (a := 1)).2 (hg.wt hi).1
  have hC : ∀ i, i < (prb pool us).n → isInt ((prb pool us).C i) := fun i hi => ⟨_, rfl⟩
  have hD : ∀ i r, i < (prb pool us).n → r < (prb pool us).k → isInt ((prb pool us).D i r) := fun i r hi hr => ⟨_, rfl⟩
  have hP : ∀ r, r < (prb pool us).k → isInt ((prb pool us).P r) := fun r hr => ⟨_, rfl⟩
  have hgM : ∀ i, i < (prb pool us).n → rateU pool us pool.length i ≤ ((6000000 : Nat) : Rat) := fun i hi => Rat.le_trans (rate_le hg hpa hi) (cast_le.2 (by decide))
  have z0 : isInt (((1 : Nat) : Rat) * ((0 : Int) : Rat)) := (isInt.nat 1).mul ⟨0, rfl⟩
  obtain ⟨hl, Q, hQ0, hQb, hd⟩ := rises_dens ho hr hW hC hD hP G 6000000 hG0 hGi (fun r hr => sumW_le hg hpa hn hr) hgM (by decide) hi0 (by show ((0 : Int) : Rat) ≤ ((1 : Int) : Rat); exact int_le.2 (by decide)) ⟨fun i hi => z0, fun i hi => z0, z0⟩ m
  have hI := rises_inv ho hr hi0 m
  have hQB := Nat.le_trans hQb (pow_bound hG0 hGb hm)
  have one : ((1 : Nat) : Rat) = 1 := rfl
  generalize risesN (prb pool us) (st0 pool us) m = s at hl hd hI
  refine ⟨sm_den (M := 1) hQ0 hQB hd.lev hI.lev0 (by rw [one]; exact hl) (by decide), fun i hi => ?_, fun i hi => ?_, fun i hi => ?_⟩
  · rw [h.n] at hi
    by_cases e : s.rt i = 0
    · rw [e]; exact (Sm.zero5 : Sm ((0 : Int) : Rat) 5) |> fun _ => ⟨len_limbs_le (by decide), len_limbs_le (by decide)⟩
    · rw [(hI.grow i hi e).1]
      obtain ⟨q, hq0, hqb, hqi⟩ := hq i hi
      obtain ⟨h2, h3⟩ := den_of hq0 hqi (hr.pos i hi) (rate_le hg hpa hi)
      have h4 := Nat.mul_le_mul_right 1000000 hqb
      exact ⟨len_limbs_le (by omega), len_limbs_le (by omega)⟩
  · rw [h.n] at hi
    have hc := hg.cap (i := i) hi
    refine sm_den (M := 1000) hQ0 hQB (hd.ts i hi) (hI.borne.low i hi) (Rat.le_trans (hI.borne.cap i hi) ?_) (Nat.le_refl _)
    exact (int_le (b := 1000)).2 hc.2
  · rw [h.n] at hi
    exact sm_den (M := 1) hQ0 hQB (hd.lv i hi) (hI.lvs i hi).2.1 (by rw [one]; exact lv_le_one ho hr hW hI hi) (by decide)
end Go.Proofs.YtigokanoflkinaaGreatDoor
