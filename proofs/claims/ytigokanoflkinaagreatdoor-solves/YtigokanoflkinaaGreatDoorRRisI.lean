/- The rise of the reference in the end: levels, who is above whom, what holds whom. -/
import Derived.Test.YtigokanoflkinaaGreatDoorRRisG
import Derived.Test.YtigokanoflkinaaGreatDoorRNum
namespace Go.Proofs.YtigokanoflkinaaGreatDoor
set_option linter.unusedSimpArgs false
set_option linter.unusedVariables false
open Go.RowKit Por

noncomputable def RD.ts (d : RD) (i : Nat) : Rat := (endS d.pool d.us).ts i
noncomputable def RD.lv (d : RD) (i : Nat) : Rat := (endS d.pool d.us).lv i
def RD.fd (d : RD) : FD := ⟨none, d.us.length, 0, d.us, d.pool.length, wholeF d.pool, 0, 0, 0, 0, 0⟩
theorem RD.fd_of (d : RD) : d.fd.Of d.pool d.us := ⟨rfl, rfl, rfl, rfl⟩
theorem stopN_of {pool : List Int} {us : List Usr} {a b : FD} (ha : a.Of pool us) (hb : b.Of pool us) (s : St) (i : Nat) : ∀ m k, stopN a s i k m = stopN b s i k m := by
  have hu : ∀ k, upB a s.ts k = upB b s.ts k := fun k => by rw [upB_of ha, upB_of hb]
  have hh : ∀ k m, highB a s.lv i k m = highB b s.lv i k m := fun k m => by
    rw [Bool.eq_iff_iff, highB_iff, highB_iff, ha.us, hb.us]
  intro m
  induction m with
  | zero => intro k; rfl
  | succ m ih =>
    intro k
    simp only [stopN]
    rw [hu, hh, ih, ha.us, hb.us, ha.n, hb.n]
theorem stopV_of {pool : List Int} {us : List Usr} {a b : FD} (ha : a.Of pool us) (hb : b.Of pool us) (s : St) (i : Nat) : stopV a s i = stopV b s i := by
  unfold stopV capB
  rw [ha.us, hb.us, ha.kk, hb.kk, stopN_of ha hb]

theorem REnd.ts0 {d : RD} {s : RV} (h : REnd d s) {i : Nat} (hi : i < d.us.length) : d.ts i = 0 ↔ nn s.hl i = 0 := by
  have h1 := h.hv i hi
  have hq := cast_pos h.q0
  constructor
  · intro e
    change ((nn s.hl i : Nat) : Rat) = s.q * d.ts i at h1
    rw [e, Rat.mul_zero] at h1
    exact cast_eq.1 h1
  · intro e
    change ((nn s.hl i : Nat) : Rat) = s.q * d.ts i at h1
    rw [e] at h1
    have z : ((0 : Nat) : Rat) = 0 := rfl
    rw [z] at h1
    have hne : (s.q : Rat) ≠ 0 := by grind
    grind
theorem REnd.lv_zero {d : RD} {s : RV} (h : REnd d s) {i : Nat} (hi : i < d.us.length) (e : nn s.hl i = 0) : d.lv i = 0 := by
  have h1 := h.lv i hi
  have h2 := (h.ts0 hi).2 e
  change d.lv i = d.ts i / d.g i at h1
  rw [h1, h2]; simp [Rat.div_def]
/-- who has something has a top -/
theorem REnd.top {d : RD} {s : RV} (ho : d.Ok) (h : REnd d s) {i : Nat} (hi : i < d.us.length) (e : nn s.hl i ≠ 0) : 0 ≤ lm s.tl i ∧ (((lm s.tl i).toNat : Nat) : Int) = lm s.tl i ∧ Top1 d i (lm s.tl i).toNat := by
  rcases h.tops.get ho hi with ⟨_, hz⟩ | h1
  · exfalso
    exact e ((h.ts0 hi).1 (h.fair.none i hi hz))
  · exact h1
theorem REnd.lv_eq {d : RD} {s : RV} (ho : d.Ok) (h : REnd d s) {i m : Nat} (hi : i < d.us.length) (ht : Top1 d i m) : d.lv i = d.ts i * ((d.a.D i m : Rat) / ((d.a.P m : Rat) * (d.a.W i : Rat))) := by
  have h1 := h.lv i hi
  change d.lv i = d.ts i / d.g i at h1
  have hD := cast_pos ht.D
  have hP := cast_pos ht.P
  have hW := cast_pos (Nat.lt_of_lt_of_le Nat.zero_lt_one (d.W_le ho hi).1)
  have hr := ht.rate
  have hPW := Rat.mul_pos hP hW
  have hg : d.g i ≠ 0 := fun e => by rw [e, Rat.zero_mul] at hr; have := Rat.mul_pos hW hP; grind
  rw [h1]
  generalize d.g i = g at *
  generalize (d.a.D i m : Rat) = D at *
  generalize (d.a.P m : Rat) = P at *
  generalize (d.a.W i : Rat) = W at *
  have e2 : (1 : Rat) / g = D / (P * W) := by
    have h5 : g * D = P * W := by rw [hr]; grind
    have h6 : D / (P * W) * (P * W) = D := div_mul (by grind)
    have h7 : (1 : Rat) / g * g = 1 := div_mul hg
    have h8 : (1 : Rat) / g * (P * W) = D := by rw [← h5, ← Rat.mul_assoc, h7, Rat.one_mul]
    have h9 : (1 : Rat) / g * (P * W) = D / (P * W) * (P * W) := by rw [h6, h8]
    have hne : P * W ≠ 0 := by grind
    grind
  rw [← e2]
  grind
theorem REnd.lv_pos {d : RD} {s : RV} (ho : d.Ok) (h : REnd d s) {i : Nat} (hi : i < d.us.length) (e : nn s.hl i ≠ 0) : 0 < d.lv i := by
  obtain ⟨_, _, ht⟩ := h.top ho hi e
  rw [h.lv_eq ho hi ht]
  have hD := cast_pos ht.D
  have hP := cast_pos ht.P
  have hW := cast_pos (Nat.lt_of_lt_of_le Nat.zero_lt_one (d.W_le ho hi).1)
  have hPW := Rat.mul_pos hP hW
  have hts : 0 < d.ts i := by
    have h0 := h.fair.low i hi
    have : d.ts i ≠ 0 := fun h5 => e ((h.ts0 hi).1 h5)
    change 0 ≤ d.ts i at h0
    grind
  have h2 : 0 < (d.a.D i (lm s.tl i).toNat : Rat) / ((d.a.P (lm s.tl i).toNat : Rat) * (d.a.W i : Rat)) := by
    rw [Rat.div_def]; exact Rat.mul_pos hD (Rat.inv_pos.2 hPW)
  exact Rat.mul_pos hts h2
theorem REnd.above0 {d : RD} {s : RV} (ho : d.Ok) (h : REnd d s) {i j : Nat} (hi : i < d.us.length) (hj : j < d.us.length) (e : nn s.hl j = 0) : ¬ d.lv i < d.lv j := by
  rw [h.lv_zero hj e]
  intro h5
  by_cases e2 : nn s.hl i = 0
  · rw [h.lv_zero hi e2] at h5; grind
  · have := h.lv_pos ho hi e2; grind
theorem REnd.above1 {d : RD} {s : RV} (ho : d.Ok) (h : REnd d s) {i j : Nat} (hi : i < d.us.length) (hj : j < d.us.length) (e : nn s.hl j ≠ 0) (e2 : nn s.hl i = 0) : d.lv i < d.lv j := by
  rw [h.lv_zero hi e2]; exact h.lv_pos ho hj e
theorem REnd.above2 {d : RD} {s : RV} (ho : d.Ok) (h : REnd d s) {i j r t : Nat} (hi : i < d.us.length) (hj : j < d.us.length) (hr : Top1 d i r) (ht : Top1 d j t) :
    d.lv i < d.lv j ↔ nn s.hl i * (d.a.D i r * d.a.P t * d.a.W j) < nn s.hl j * (d.a.D j t * d.a.P r * d.a.W i) := by
  rw [h.lv_eq ho hi hr, h.lv_eq ho hj ht, ← cast_lt]
  have h1 := h.hv i hi
  have h2 := h.hv j hj
  change ((nn s.hl i : Nat) : Rat) = s.q * d.ts i at h1
  change ((nn s.hl j : Nat) : Rat) = s.q * d.ts j at h2
  simp only [cast_mul]
  rw [h1, h2]
  have hq := cast_pos h.q0
  have hPr := cast_pos hr.P
  have hPt := cast_pos ht.P
  have hWi := cast_pos (Nat.lt_of_lt_of_le Nat.zero_lt_one (d.W_le ho hi).1)
  have hWj := cast_pos (Nat.lt_of_lt_of_le Nat.zero_lt_one (d.W_le ho hj).1)
  generalize d.ts i = x at *
  generalize d.ts j = y at *
  generalize (s.q : Rat) = q at *
  generalize (d.a.D i r : Rat) = Di at *
  generalize (d.a.D j t : Rat) = Dj at *
  generalize (d.a.P r : Rat) = Pr at *
  generalize (d.a.P t : Rat) = Pt at *
  generalize (d.a.W i : Rat) = Wi at *
  generalize (d.a.W j : Rat) = Wj at *
  have hA := Rat.mul_pos hPr hWi
  have hB := Rat.mul_pos hPt hWj
  have hAB := Rat.mul_pos hA hB
  have hC := Rat.mul_pos hAB hq
  have e1 : Di / (Pr * Wi) * (Pr * Wi) = Di := div_mul (by grind)
  have e2 : Dj / (Pt * Wj) * (Pt * Wj) = Dj := div_mul (by grind)
  have f1 : x * (Di / (Pr * Wi)) * ((Pr * Wi) * (Pt * Wj) * q) = q * x * (Di * Pt * Wj) := by
    calc x * (Di / (Pr * Wi)) * ((Pr * Wi) * (Pt * Wj) * q) = q * x * (Di / (Pr * Wi) * (Pr * Wi) * (Pt * Wj)) := by grind
      _ = _ := by rw [e1]; grind
  have f2 : y * (Dj / (Pt * Wj)) * ((Pr * Wi) * (Pt * Wj) * q) = q * y * (Dj * Pr * Wi) := by
    calc y * (Dj / (Pt * Wj)) * ((Pr * Wi) * (Pt * Wj) * q) = q * y * (Dj / (Pt * Wj) * (Pt * Wj) * (Pr * Wi)) := by grind
      _ = _ := by rw [e2]; grind
  rw [← f1, ← f2]
  constructor
  · intro h5; exact Rat.mul_lt_mul_of_pos_right h5 hC
  · intro h5
    apply Classical.byContradiction
    intro h6
    have := mul_le_right (Rat.not_lt.1 h6) (show (0 : Rat) ≤ (Pr * Wi) * (Pt * Wj) * q by grind)
    grind
/-- does kind r hold user i in the end? -/
def HoldsN (d : RD) (r i : Nat) : Prop := 0 < lm (ug d.us i).dem r ∧ used (prb d.pool d.us) (endS d.pool d.us).ts r = ((lm d.pool r : Int) : Rat) ∧ ∀ j, j < d.us.length → 0 < lm (ug d.us j).dem r → ¬ d.lv i < d.lv j
theorem holdsN_iff {d : RD} {r i : Nat} : HoldsN d r i ↔ HoldsB d.fd (endS d.pool d.us) r i := by
  unfold HoldsN HoldsB
  rw [upB_of d.fd_of, decide_eq_true_eq, highB_iff]
  show _ ∧ totF d.us (endS d.pool d.us).ts r d.us.length = _ ∧ _ ↔ _
  constructor
  · rintro ⟨h1, h2, h3⟩
    exact ⟨h1, h2, fun j hj h5 => Rat.not_lt.1 (h3 j hj h5)⟩
  · rintro ⟨h1, h2, h3⟩
    exact ⟨h1, h2, fun j hj h5 => Rat.not_lt.2 (h3 j hj h5)⟩
/-- what share tells -/
theorem REnd.text {d : RD} {s : RV} (h : REnd d s) {i : Nat} (hi : i < d.us.length) : mkRat (sg false (nn s.hl i)) s.q = d.ts i := by
  have h1 := h.hv i hi
  change ((nn s.hl i : Nat) : Rat) = s.q * d.ts i at h1
  have hq := cast_pos h.q0
  rw [rat_of]
  show (((nn s.hl i : Nat) : Int) : Rat) / ((s.q : Int) : Rat) = _
  have e1 : (((nn s.hl i : Nat) : Int) : Rat) = ((nn s.hl i : Nat) : Rat) := rfl
  have e2 : ((s.q : Int) : Rat) = (s.q : Rat) := rfl
  rw [e1, e2, h1]
  generalize (s.q : Rat) = q at *
  generalize d.ts i = x
  have hne : q ≠ 0 := by grind
  rw [Rat.div_def]
  have := Rat.mul_inv_cancel q hne
  grind
theorem REnd.level {d : RD} {s : RV} (ho : d.Ok) (h : REnd d s) {i m : Nat} (hi : i < d.us.length) (ht : Top1 d i m) : mkRat (sg false (nn s.hl i * d.a.D i m)) (s.q * (d.a.P m * d.a.W i)) = d.lv i := by
  rw [h.lv_eq ho hi ht]
  have h1 := h.hv i hi
  change ((nn s.hl i : Nat) : Rat) = s.q * d.ts i at h1
  have hq := cast_pos h.q0
  have hP := cast_pos ht.P
  have hW := cast_pos (Nat.lt_of_lt_of_le Nat.zero_lt_one (d.W_le ho hi).1)
  rw [rat_of]
  have e1 : ((sg false (nn s.hl i * d.a.D i m) : Int) : Rat) = ((nn s.hl i : Nat) : Rat) * (d.a.D i m : Rat) := by rw [← cast_mul]; rfl
  have e2 : (((s.q * (d.a.P m * d.a.W i) : Nat) : Int) : Rat) = (s.q : Rat) * ((d.a.P m : Rat) * (d.a.W i : Rat)) := by rw [← cast_mul, ← cast_mul]; rfl
  rw [e1, e2, h1]
  generalize (s.q : Rat) = q at *
  generalize d.ts i = x at *
  generalize (d.a.D i m : Rat) = D at *
  have hPW := Rat.mul_pos hP hW
  generalize (d.a.P m : Rat) * (d.a.W i : Rat) = B at *
  have hB : B ≠ 0 := by grind
  have hqn : q ≠ 0 := by grind
  have hqB : q * B ≠ 0 := by have := Rat.mul_pos hq hPW; grind
  have f1 : q * x * D / (q * B) * (q * B) = q * x * D := div_mul hqB
  have f2 : D / B * B = D := div_mul hB
  have f3 : x * (D / B) * (q * B) = q * x * D := by
    calc x * (D / B) * (q * B) = q * x * (D / B * B) := by grind
      _ = _ := by rw [f2]
  grind
theorem REnd.level0 {d : RD} {s : RV} (ho : d.Ok) (h : REnd d s) {i : Nat} (hi : i < d.us.length) (e : lm s.tl i < 0) : d.lv i = 0 := by
  rcases h.tops.get ho hi with ⟨_, hz⟩ | ⟨h1, _⟩
  · exact h.lv_zero hi ((h.ts0 hi).1 (h.fair.none i hi hz))
  · omega
theorem REnd.cap {d : RD} {s : RV} (ho : d.Ok) (h : REnd d s) {i : Nat} (hi : i < d.us.length) : nn s.hl i = d.a.C i * s.q ↔ (endS d.pool d.us).ts i = (((ug d.us i).cap : Int) : Rat) := by
  have h1 := h.hv i hi
  have hq := cast_pos h.q0
  have hC := nat_int_rat (d.C_eq ho hi)
  rw [← hC, ← Por.cast_eq, cast_mul, h1]
  generalize (s.q : Rat) = q at *
  generalize (endS d.pool d.us).ts i = x
  generalize ((d.a.C i : Nat) : Rat) = c
  have hne : q ≠ 0 := by grind
  constructor <;> intro e <;> grind
end Go.Proofs.YtigokanoflkinaaGreatDoor
