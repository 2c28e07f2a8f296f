/- RRisG, RRisI, joined. -/
import Derived.Test.YtigokanoflkinaaGreatDoorRRsA
import Derived.Test.YtigokanoflkinaaGreatDoorKFilA
import Derived.Test.YtigokanoflkinaaGreatDoorRNum
/- The rise of the reference: where it begins and where it ends, in numbers. -/
namespace Go.Proofs.YtigokanoflkinaaGreatDoor
set_option linter.unusedSimpArgs false
set_option linter.unusedVariables false
open Go.RowKit Por

def prdT (f : Nat → Nat) : Nat → Nat
  | 0 => 1
  | n + 1 => prdT f n * f n
theorem prdT_le {f : Nat → Nat} {M : Nat} (hM : 0 < M) : ∀ n, (∀ i, i < n → f i ≤ M) → prdT f n ≤ M ^ n := by
  intro n
  induction n with
  | zero => intro _; exact Nat.le_refl _
  | succ n ih =>
    intro h
    rw [Nat.pow_succ]
    exact Nat.mul_le_mul (ih (fun i hi => h i (by omega))) (h n (by omega))
theorem prdT_pos {f : Nat → Nat} : ∀ n, (∀ i, i < n → 0 < f i) → 0 < prdT f n := by
  intro n
  induction n with
  | zero => intro _; exact Nat.one_pos
  | succ n ih => intro h; exact Nat.mul_pos (ih (fun i hi => h i (by omega))) (h n (by omega))
theorem prdT_congr {f h : Nat → Nat} : ∀ n, (∀ i, i < n → f i = h i) → prdT f n = prdT h n := by
  intro n
  induction n with
  | zero => intro _; rfl
  | succ n ih => intro e; simp only [prdT]; rw [ih (fun i hi => e i (by omega)), e n (by omega)]
theorem prdT_one {f h : Nat → Nat} {i : Nat} (hf : f i = 1) (he : ∀ j, j ≠ i → f j = h j) : ∀ n, i < n → prdT f n * h i = prdT h n := by
  intro n
  induction n with
  | zero => intro h; omega
  | succ n ih =>
    intro hi
    simp only [prdT]
    by_cases e : i = n
    · subst e
      rw [hf, Nat.mul_one, prdT_congr i (fun j hj => he j (by omega))]
    · have := ih (by omega)
      rw [he n (fun h => e h.symm), ← this]
      ac_rfl

/-- the demand of user j for its top kind -/
def RD.tD (d : RD) (tl : List Int) (j : Nat) : Nat := d.a.D j (lm tl j).toNat
def gF (d : RD) (tl : List Int) (i j : Nat) : Nat := if j ≠ i ∧ 0 ≤ lm tl j then d.tD tl j else 1
def gAll (d : RD) (tl : List Int) (j : Nat) : Nat := if 0 ≤ lm tl j then d.tD tl j else 1
/-- the growth of user i -/
def grT (d : RD) (tl : List Int) (i : Nat) : Nat := if 0 ≤ lm tl i then d.a.W i * d.a.P (lm tl i).toNat * prdT (gF d tl i) d.us.length else 0

theorem RD.W_eq {d : RD} (h : d.Ok) {i : Nat} (hi : i < d.us.length) : (ug d.us i).wt = ((d.a.W i : Nat) : Int) := by
  have := h.good.wt hi
  show (ug d.us i).wt = (((ug d.us i).wt.toNat : Nat) : Int); omega
theorem RD.W_le {d : RD} (h : d.Ok) {i : Nat} (hi : i < d.us.length) : 1 ≤ d.a.W i ∧ d.a.W i ≤ 100 := by have := h.good.wt hi; have := d.W_eq h hi; omega

theorem nat_int_rat {n : Nat} {z : Int} (h : z = (n : Int)) : ((n : Nat) : Rat) = ((z : Int) : Rat) := by rw [h]; rfl
theorem ug_out {us : List Usr} {i : Nat} (h : us.length ≤ i) : ug us i = ⟨[], 0, 0⟩ := by
  unfold ug; simp [List.getD, List.getElem?_eq_none h]
/-- the reference's problem is the program's -/
theorem RD.toP_eq {d : RD} (h : d.Ok) : d.a.toP = prb d.pool d.us := by
  have hP : (fun r => ((d.a.P r : Nat) : Rat)) = fun r => ((lm d.pool r : Int) : Rat) := funext fun r => nat_int_rat (d.P_eq h r)
  have hD : (fun i r => ((d.a.D i r : Nat) : Rat)) = fun i r => dm d.us i r := funext fun i => funext fun r => by
    show _ = ((lm (ug d.us i).dem r : Int) : Rat)
    by_cases hi : i < d.us.length
    · exact nat_int_rat (d.D_eq h hi r)
    · refine nat_int_rat ?_
      show lm (ug d.us i).dem r = (((lm (ug d.us i).dem r).toNat : Nat) : Int)
      rw [ug_out (by omega)]; rfl
  have hW : (fun i => ((d.a.W i : Nat) : Rat)) = fun i => (((ug d.us i).wt : Int) : Rat) := funext fun i => by
    by_cases hi : i < d.us.length
    · exact nat_int_rat (d.W_eq h hi)
    · refine nat_int_rat ?_
      show (ug d.us i).wt = (((ug d.us i).wt.toNat : Nat) : Int)
      rw [ug_out (by omega)]; rfl
  have hC : (fun i => ((d.a.C i : Nat) : Rat)) = fun i => (((ug d.us i).cap : Int) : Rat) := funext fun i => by
    by_cases hi : i < d.us.length
    · exact nat_int_rat (d.C_eq h hi)
    · refine nat_int_rat ?_
      show (ug d.us i).cap = (((ug d.us i).cap.toNat : Nat) : Int)
      rw [ug_out (by omega)]; rfl
  show (⟨d.us.length, d.pool.length, _, _, _, _⟩ : Prob) = _
  unfold prb
  rw [← hP, ← hD, ← hW, ← hC]
def RD.g (d : RD) : Nat → Rat := rateU d.pool d.us d.pool.length
theorem RD.ok {d : RD} (h : d.Ok) : d.a.toP.Ok := by rw [d.toP_eq h]; exact prb_ok h.good h.pool
theorem RD.rate {d : RD} (h : d.Ok) : Rate d.a.toP d.g := by rw [d.toP_eq h]; exact prb_rate h.good h.pool

/-- the tops are as they are told -/
def Tops (d : RD) (tl : List Int) : Prop := ∀ i, i < d.us.length → TopIs d.pool (ug d.us i) (lm tl i)
structure Top1 (d : RD) (i m : Nat) : Prop where
  lt : m < d.pool.length
  D : 0 < d.a.D i m
  P : 0 < d.a.P m
  rate : d.g i * (d.a.D i m : Rat) = (d.a.W i : Rat) * (d.a.P m : Rat)
theorem Tops.get {d : RD} {tl : List Int} (h : d.Ok) (ht : Tops d tl) {i : Nat} (hi : i < d.us.length) : (lm tl i = -1 ∧ d.g i = 0) ∨ (0 ≤ lm tl i ∧ (((lm tl i).toNat : Nat) : Int) = lm tl i ∧ Top1 d i (lm tl i).toNat) := by
  rcases ht i hi with ⟨e, h1⟩ | ⟨m, e, hm, hd, hp, hw, hb⟩
  · left
    refine ⟨e, ?_⟩
    rcases h1 with ⟨r, hr, h2, h3⟩ | h2
    · have hdr := (amt_rng (h.good.dem hi r)).1
      exact rate_zero (prb_ok h.good h.pool) (prb_rate h.good h.pool) (i := i) (r := r) hi hr (int_pos.2 (by omega)) (by show ((lm d.pool r : Int) : Rat) = 0; rw [h3]; rfl)
    · obtain ⟨r, hr, h3⟩ := h.good.some hi
      have := h2 r hr; omega
  · right
    have em : (lm tl i).toNat = m := by omega
    have hD := d.D_eq h hi m
    have hP := d.P_eq h m
    rw [em]
    refine ⟨by omega, by omega, hm, by omega, by omega, ?_⟩
    have h9 := rank_of h.good h.pool hi hm hd hp hw hb
    rw [nat_int_rat hD, nat_int_rat hP, nat_int_rat (d.W_eq h hi)]
    exact h9

theorem gr_len {d : RD} {tl : List Int} (h : d.Ok) {i : Nat} (hi : i < d.us.length) : (limbs (grT d tl i)).length ≤ 8 := by
  have hn := h.n6
  have e : (limbs (100 * 10000 * 10000 ^ 6)).length = 8 := by decide
  have h1 : grT d tl i ≤ 100 * 10000 * 10000 ^ 6 := by
    unfold grT
    split
    · refine Nat.mul_le_mul (Nat.mul_le_mul (d.W_le h hi).2 (d.P_le h _)) ?_
      refine Nat.le_trans (prdT_le (M := 10000) (by omega) _ (fun j hj => ?_)) (Nat.pow_le_pow_right (by omega) hn)
      unfold gF RD.tD
      split
      · exact d.D_le h hj _
      · omega
    · exact Nat.zero_le _
  have := len_mono h1
  omega
theorem gr_rate {d : RD} {tl : List Int} (h : d.Ok) (ht : Tops d tl) {i : Nat} (hi : i < d.us.length) : ((grT d tl i : Nat) : Rat) = ((prdT (gAll d tl) d.us.length : Nat) : Rat) * d.g i := by
  rcases ht.get h hi with ⟨e, hz⟩ | ⟨e, _, h1⟩
  · rw [hz]
    have : grT d tl i = 0 := if_neg (by omega)
    rw [this, Rat.mul_zero]; rfl
  · have hg : grT d tl i = d.a.W i * d.a.P (lm tl i).toNat * prdT (gF d tl i) d.us.length := if_pos e
    have hp := prdT_one (f := gF d tl i) (h := gAll d tl) (i := i) (by unfold gF; rw [if_neg (fun h5 => h5.1 rfl)]) (fun j hj => by
      unfold gF gAll
      by_cases e2 : 0 ≤ lm tl j
      · rw [if_pos ⟨hj, e2⟩, if_pos e2]
      · rw [if_neg (fun h5 => e2 h5.2), if_neg e2]) d.us.length hi
    have e3 : gAll d tl i = d.a.D i (lm tl i).toNat := if_pos e
    rw [e3] at hp
    have hD := cast_pos h1.D
    have h9 : ((prdT (gF d tl i) d.us.length : Nat) : Rat) * (d.a.D i (lm tl i).toNat : Rat) = ((prdT (gAll d tl) d.us.length : Nat) : Rat) := by rw [← cast_mul, hp]
    rw [hg, cast_mul, cast_mul, ← h9]
    have h8 := h1.rate
    generalize ((prdT (gF d tl i) d.us.length : Nat) : Rat) = x at *
    generalize (d.a.D i (lm tl i).toNat : Rat) = y at *
    generalize (d.a.W i : Rat) = z at *
    generalize (d.a.P (lm tl i).toNat : Rat) = v at *
    generalize d.g i = u at *
    calc z * v * x = (u * y) * x := by rw [h8]
      _ = x * y * u := by grind
theorem gAll_pos {d : RD} {tl : List Int} (h : d.Ok) (ht : Tops d tl) : 0 < prdT (gAll d tl) d.us.length := by
  refine prdT_pos _ (fun j hj => ?_)
  unfold gAll
  split
  · rename_i e
    rcases ht.get h hj with ⟨e1, _⟩ | ⟨_, _, h1⟩
    · omega
    · exact h1.D
  · omega

/-- a rise on its way: t turns are behind it -/
structure RIn (d : RD) (s : RV) (t : Nat) : Prop where
  tl : s.tl.length = d.us.length
  gl : s.gl.length = d.us.length
  hl : s.hl.length = d.us.length
  sl : s.sl.length = d.us.length
  tops : Tops d s.tl
  gr : ∀ i, i < d.us.length → nn s.gl i = grT d s.tl i
  q : (limbs s.q).length ≤ 1 + 16 * t
  inv : ∃ s0 : St, Inv d.a.toP d.g s0 ∧ Abs d.a d.g s0 s.R
  cnt : Por.cnt (fun i => s.R.still i = true) d.us.length + t ≤ d.us.length

/-- what has stopped is left -/
theorem left_le {a : NProb} {g : Nat → Rat} {s : St} {R : RS} (hA : Abs a g s R) (hb : Borne a.toP s.ts) {r : Nat} (hr : r < a.k) {m : Nat} (hm : m < a.n) (hs : R.still m = false) : a.D m r * R.hv m ≤ leftT a R r m := by
  have h1 := left_sum hA hb hr m (by omega)
  have h2 := left_sum hA hb hr (m + 1) (by omega)
  have hv := hA.hv m hm hs
  have h3 : sumN (fun i => if R.still i then 0 else s.ts i * (a.D i r : Rat)) (m + 1) ≤ a.P r := by
    have h4 : (0 : Rat) ≤ ((leftT a R r (m + 1) : Nat) : Rat) := cast_nonneg _
    rw [h2] at h4
    have hq := cast_pos hA.q
    apply le_of_mul (c := (R.q : Rat)) _ hq
    grind
  simp only [sumN, hs, Bool.false_eq_true, if_false] at h3
  rw [← cast_le, cast_mul, h1, hv]
  have hq := cast_pos hA.q
  have := mul_le_left h3 (show (0 : Rat) ≤ R.q by grind)
  grind
theorem RIn.hle {d : RD} {s : RV} {t : Nat} (h : RIn d s t) : ∀ r, r < d.pool.length → ∀ i, i < d.us.length → bn s.sl i = false → d.a.D i r * nn s.hl i ≤ leftT d.a s.R r i := by
  intro r hr i hi hs
  obtain ⟨s0, hI, hA⟩ := h.inv
  exact left_le hA hI.borne hr hi hs
theorem RIn.hv_le {d : RD} {s : RV} {t : Nat} (h : RIn d s t) {i : Nat} (hi : i < d.us.length) : nn s.hl i ≤ d.a.C i * s.q := by
  obtain ⟨s0, hI, hA⟩ := h.inv
  cases hs : s.R.still i with
  | true => have h9 : nn s.hl i = 0 := hA.hv0 i hi hs; omega
  | false =>
    have h1 : ((nn s.hl i : Nat) : Rat) = s.q * s0.ts i := hA.hv i hi hs
    rw [← cast_le, cast_mul, h1]
    have h2 := hI.borne.cap i hi
    have h3 := mul_le_left h2 (cast_nonneg s.q)
    change (s.q : Rat) * s0.ts i ≤ (s.q : Rat) * (d.a.C i : Rat) at h3
    grind
theorem RIn.ok {d : RD} {s : RV} {t : Nat} (ho : d.Ok) (h : RIn d s t) : s.Ok d := by
  have hn := ho.n6
  have hc := h.cnt
  have hq := h.q
  refine ⟨h.tl, h.gl, h.hl, h.sl, by omega, fun i hi => ?_, fun i hi => ?_⟩
  · have h1 := len_mono (h.hv_le hi)
    have h2 := len_mul (d.a.C i) s.q
    have h3 := len_sml (Nat.le_trans (d.C_le ho hi) (by omega : 1000 ≤ 10000))
    omega
  · rw [h.gr i hi]; exact gr_len ho hi

/-- one turn -/
theorem RIn.turn {d : RD} {s s' : RV} {t : Nat} (ho : d.Ok) (h : RIn d s t) (hne : (nextT d.a (nn s.gl) s.R).2.1 ≠ 0) (hS : (limbs (nextT d.a (nn s.gl) s.R).2.1).length ≤ 16) (e1 : s'.tl = s.tl) (e2 : s'.gl = s.gl) (e3 : s'.hl.length = d.us.length) (e4 : s'.sl.length = d.us.length)
    (hT : TurnT d.a (nn s.gl) s.R s'.R) : RIn d s' (t + 1) := by
  obtain ⟨s0, hI, hA⟩ := h.inv
  have hr := turn_abs (d.ok ho) (d.rate ho) (gAll_pos ho h.tops) (fun i hi => by rw [h.gr i hi]; exact gr_rate ho h.tops hi) hI hA hT hne
  obtain ⟨⟨s1, hI1, hA1⟩, hc⟩ := hr
  have hcn := h.cnt
  have hc2 : Por.cnt (fun i => s'.R.still i = true) d.us.length < Por.cnt (fun i => s.R.still i = true) d.us.length := hc
  refine ⟨by rw [e1]; exact h.tl, by rw [e2]; exact h.gl, e3, e4, by rw [e1]; exact h.tops, fun i hi => by rw [e1, e2]; exact h.gr i hi, ?_, ⟨s1, hI1, hA1⟩, by omega⟩
  have hq : s'.q = if (nextT d.a (nn s.gl) s.R).2.2 then s.q * (nextT d.a (nn s.gl) s.R).2.1 else s.q := hT.q
  rw [hq]
  have h1 := h.q
  split
  · have := len_mul s.q (nextT d.a (nn s.gl) s.R).2.1
    omega
  · omega

/-- where the reference begins -/
structure RBeg (d : RD) (s : RV) : Prop where
  tl : s.tl.length = d.us.length
  gl : s.gl.length = d.us.length
  hl : s.hl.length = d.us.length
  sl : s.sl.length = d.us.length
  tops : Tops d s.tl
  gr : ∀ i, i < d.us.length → nn s.gl i = grT d s.tl i
  hv : ∀ i, i < d.us.length → nn s.hl i = 0
  st : ∀ i, i < d.us.length → bn s.sl i = (decide (0 ≤ lm s.tl i) && decide (0 < (ug d.us i).cap))
  q : s.q = 1
theorem cnt_le (S : Nat → Prop) : ∀ k, Por.cnt S k ≤ k := by
  intro k
  induction k with
  | zero => exact Nat.le_refl _
  | succ k ih => unfold Por.cnt; split <;> omega
theorem RBeg.inn {d : RD} {s : RV} (ho : d.Ok) (h : RBeg d s) : RIn d s 0 := by
  refine ⟨h.tl, h.gl, h.hl, h.sl, h.tops, h.gr, by rw [h.q]; decide, ?_, by have := cnt_le (fun i => s.R.still i = true) d.us.length; omega⟩
  have hrate : ∀ i, i < d.us.length → 0 ≤ lm s.tl i → d.g i ≠ 0 := fun i hi e h5 => by
    rcases h.tops.get ho hi with ⟨e1, _⟩ | ⟨_, _, h1⟩
    · omega
    · have h9 := h1.rate
      rw [h5, Rat.zero_mul] at h9
      have := Rat.mul_pos (cast_pos (Nat.lt_of_lt_of_le Nat.zero_lt_one (d.W_le ho hi).1)) (cast_pos h1.P)
      grind
  refine ⟨⟨0, fun i => if bn s.sl i = true then d.g i else 0, fun _ => 0, fun _ => 0⟩, Inv.first (d.ok ho) (d.rate ho) _ (fun i hi => ?_), ⟨by show 0 < s.q; rw [h.q]; omega, fun i hi => ?_, fun i hi hs => ?_, fun i hi hs => h.hv i hi⟩⟩
  · cases e : bn s.sl i with
    | true => left; exact if_pos rfl
    | false =>
      have e2 := h.st i hi
      rw [e] at e2
      by_cases h5 : 0 ≤ lm s.tl i
      · right
        refine ⟨if_neg Bool.false_ne_true, ?_⟩
        have h6 : ¬ 0 < (ug d.us i).cap := fun h6 => by rw [decide_eq_true h5, decide_eq_true h6] at e2; cases e2
        have h7 := d.C_eq ho hi
        show ((d.a.C i : Nat) : Rat) = 0
        have : d.a.C i = 0 := by omega
        rw [this]; rfl
      · left
        rcases h.tops.get ho hi with ⟨_, e1⟩ | ⟨h6, _⟩
        · rw [e1]; exact if_neg Bool.false_ne_true
        · exact absurd h6 h5
  · show bn s.sl i = true ↔ (if bn s.sl i = true then d.g i else 0) ≠ 0
    cases e : bn s.sl i with
    | true =>
      have e2 := h.st i hi
      rw [e] at e2
      have h5 : 0 ≤ lm s.tl i := by
        apply Classical.byContradiction; intro h5
        rw [decide_eq_false h5] at e2; cases e2
      simp only [if_true, true_iff]
      exact hrate i hi h5
    | false => simp
  · show ((nn s.hl i : Nat) : Rat) = s.q * 0
    rw [h.hv i hi, Rat.mul_zero]; rfl

/-- where it ends: the fair filling, that the program finds too -/
structure REnd (d : RD) (s : RV) : Prop where
  tl : s.tl.length = d.us.length
  gl : s.gl.length = d.us.length
  hl : s.hl.length = d.us.length
  sl : s.sl.length = d.us.length
  tops : Tops d s.tl
  q0 : 0 < s.q
  hv : ∀ i, i < d.us.length → ((nn s.hl i : Nat) : Rat) = s.q * (endS d.pool d.us).ts i
  lf : ∀ r, r < d.pool.length → (lft d.a s.R r = 0 ↔ used (prb d.pool d.us) (endS d.pool d.us).ts r = ((lm d.pool r : Int) : Rat))
  fair : FairFill (prb d.pool d.us) d.g (endS d.pool d.us).ts
  lv : ∀ i, i < d.us.length → (endS d.pool d.us).lv i = (endS d.pool d.us).ts i / d.g i
theorem RIn.fin {d : RD} {s : RV} {t : Nat} (ho : d.Ok) (h : RIn d s t) (hz : (nextT d.a (nn s.gl) s.R).2.1 = 0) : REnd d s := by
  obtain ⟨s0, hI, hA⟩ := h.inv
  have hG := cast_pos (gAll_pos ho h.tops)
  have hgr0 : ∀ i, i < d.a.n → s.R.still i = true → 0 < nn s.gl i := fun i hi hs => by
    have h1 := (hA.still i hi).1 hs
    have h2 := (hI.grow i hi h1).1
    have h3 := (d.rate ho).pos i hi
    rw [h2] at h1
    apply cast_lt.1
    rw [h.gr i hi, gr_rate ho h.tops hi]
    exact Rat.mul_pos hG (by grind)
  have hoff := next_none hgr0 (fun i hi => by
    obtain ⟨r, hr, h3⟩ := ho.good.some hi
    refine ⟨r, hr, ?_⟩
    have := d.D_eq ho hi r
    have := (amt_rng (ho.good.dem hi r)).1
    omega) hz
  have hrt : ∀ i, i < d.us.length → s0.rt i = 0 := fun i hi => by
    apply Classical.byContradiction
    intro h5
    have h6 := hoff i hi
    rw [(hA.still i hi).2 h5] at h6; cases h6
  have hl := hI.last (d.rate ho) hrt
  rw [d.toP_eq ho] at hl
  obtain ⟨hf, hlv⟩ := endS_fair ho.good ho.pool
  have hu := unique (prb_ok ho.good ho.pool) (prb_rate ho.good ho.pool) hl.1 hf
  refine ⟨h.tl, h.gl, h.hl, h.sl, h.tops, hA.q, fun i hi => ?_, fun r hr => ?_, hf, hlv⟩
  · rw [← hu i hi]; exact hA.hv i hi (hoff i hi)
  · have h1 := left_sum hA hI.borne hr d.a.n (Nat.le_refl _)
    have h2 : sumN (fun i => if s.R.still i then 0 else s0.ts i * (d.a.D i r : Rat)) d.a.n = used (prb d.pool d.us) (endS d.pool d.us).ts r := by
      show _ = sumN (fun i => (endS d.pool d.us).ts i * (prb d.pool d.us).D i r) d.us.length
      refine sumN_congr (fun i hi => ?_)
      rw [hoff i hi, ← hu i hi, ← d.toP_eq ho]; rfl
    rw [h2] at h1
    have hq := cast_pos hA.q
    have hP : ((d.a.P r : Nat) : Rat) = ((lm d.pool r : Int) : Rat) := nat_int_rat (d.P_eq ho r)
    rw [hP] at h1
    change ((lft d.a s.R r : Nat) : Rat) = _ at h1
    constructor
    · intro e
      rw [e] at h1
      have z : ((0 : Nat) : Rat) = 0 := rfl
      rw [z] at h1
      have hne : (s.R.q : Rat) ≠ 0 := by grind
      grind
    · intro e
      rw [e] at h1
      apply cast_eq.1
      have z : ((0 : Nat) : Rat) = 0 := rfl
      rw [z, h1]; grind
end Go.Proofs.YtigokanoflkinaaGreatDoor

/- The rise of the reference in the end: levels, who is above whom, what holds whom. -/
namespace Go.Proofs.YtigokanoflkinaaGreatDoor
set_option linter.unusedSimpArgs false
set_option linter.unusedVariables false
open Go.RowKit Por

noncomputable def RD.ts (d : RD) (i : Nat) : Rat := (endS d.pool d.us).ts i
noncomputable def RD.lv (d : RD) (i : Nat) : Rat := (endS d.pool d.us).lv i
def RD.fd (d : RD) : FD := ⟨none, d.us.length, 0, d.us, d.pool.length, wholeF d.pool, 0, 0, 0, 0, 0⟩
theorem RD.fd_of (d : RD) : d.fd.Of d.pool d.us := ⟨rfl, rfl, rfl, rfl⟩
theorem stopN_of {pool : List Int} {us : List Usr} {a b : FD} (ha : a.Of pool us) (hb : b.Of pool us) (s : St) (i : Nat) : ∀ m k, stopN a s i k m = stopN b s i k m := by
  have hu : ∀ k, upB a s.ts k = upB b s.ts k := fun k => by rw [upB_of ha, upB_of hb]
  have hh : ∀ k m, highB a s.lv i k m = highB b s.lv i k m := fun k m => by
    rw [Bool.eq_iff_iff, highB_iff, highB_iff, ha.us, hb.us]
  intro m
  induction m with
  | zero => intro k; rfl
  | succ m ih =>
    intro k
    simp only [stopN]
    rw [hu, hh, ih, ha.us, hb.us, ha.n, hb.n]
theorem stopV_of {pool : List Int} {us : List Usr} {a b : FD} (ha : a.Of pool us) (hb : b.Of pool us) (s : St) (i : Nat) : stopV a s i = stopV b s i := by
  unfold stopV capB
  rw [ha.us, hb.us, ha.kk, hb.kk, stopN_of ha hb]

theorem REnd.ts0 {d : RD} {s : RV} (h : REnd d s) {i : Nat} (hi : i < d.us.length) : d.ts i = 0 ↔ nn s.hl i = 0 := by
  have h1 := h.hv i hi
  have hq := cast_pos h.q0
  constructor
  · intro e
    change ((nn s.hl i : Nat) : Rat) = s.q * d.ts i at h1
    rw [e, Rat.mul_zero] at h1
    exact cast_eq.1 h1
  · intro e
    change ((nn s.hl i : Nat) : Rat) = s.q * d.ts i at h1
    rw [e] at h1
    have z : ((0 : Nat) : Rat) = 0 := rfl
    rw [z] at h1
    have hne : (s.q : Rat) ≠ 0 := by grind
    grind
theorem REnd.lv_zero {d : RD} {s : RV} (h : REnd d s) {i : Nat} (hi : i < d.us.length) (e : nn s.hl i = 0) : d.lv i = 0 := by
  have h1 := h.lv i hi
  have h2 := (h.ts0 hi).2 e
  change d.lv i = d.ts i / d.g i at h1
  rw [h1, h2]; simp [Rat.div_def]
/-- who has something has a top -/
theorem REnd.top {d : RD} {s : RV} (ho : d.Ok) (h : REnd d s) {i : Nat} (hi : i < d.us.length) (e : nn s.hl i ≠ 0) : 0 ≤ lm s.tl i ∧ (((lm s.tl i).toNat : Nat) : Int) = lm s.tl i ∧ Top1 d i (lm s.tl i).toNat := by
  rcases h.tops.get ho hi with ⟨_, hz⟩ | h1
  · exfalso
    exact e ((h.ts0 hi).1 (h.fair.none i hi hz))
  · exact h1
theorem REnd.lv_eq {d : RD} {s : RV} (ho : d.Ok) (h : REnd d s) {i m : Nat} (hi : i < d.us.length) (ht : Top1 d i m) : d.lv i = d.ts i * ((d.a.D i m : Rat) / ((d.a.P m : Rat) * (d.a.W i : Rat))) := by
  have h1 := h.lv i hi
  change d.lv i = d.ts i / d.g i at h1
  have hD := cast_pos ht.D
  have hP := cast_pos ht.P
  have hW := cast_pos (Nat.lt_of_lt_of_le Nat.zero_lt_one (d.W_le ho hi).1)
  have hr := ht.rate
  have hPW := Rat.mul_pos hP hW
  have hg : d.g i ≠ 0 := fun e => by rw [e, Rat.zero_mul] at hr; have := Rat.mul_pos hW hP; grind
  rw [h1]
  generalize d.g i = g at *
  generalize (d.a.D i m : Rat) = D at *
  generalize (d.a.P m : Rat) = P at *
  generalize (d.a.W i : Rat) = W at *
  have e2 : (1 : Rat) / g = D / (P * W) := by
    have h5 : g * D = P * W := by rw [hr]; grind
    have h6 : D / (P * W) * (P * W) = D := div_mul (by grind)
    have h7 : (1 : Rat) / g * g = 1 := div_mul hg
    have h8 : (1 : Rat) / g * (P * W) = D := by rw [← h5, ← Rat.mul_assoc, h7, Rat.one_mul]
    have h9 : (1 : Rat) / g * (P * W) = D / (P * W) * (P * W) := by rw [h6, h8]
    have hne : P * W ≠ 0 := by grind
    grind
  rw [← e2]
  grind
theorem REnd.lv_pos {d : RD} {s : RV} (ho : d.Ok) (h : REnd d s) {i : Nat} (hi : i < d.us.length) (e : nn s.hl i ≠ 0) : 0 < d.lv i := by
  obtain ⟨_, _, ht⟩ := h.top ho hi e
  rw [h.lv_eq ho hi ht]
  have hD := cast_pos ht.D
  have hP := cast_pos ht.P
  have hW := cast_pos (Nat.lt_of_lt_of_le Nat.zero_lt_one (d.W_le ho hi).1)
  have hPW := Rat.mul_pos hP hW
  have hts : 0 < d.ts i := by
    have h0 := h.fair.low i hi
    have : d.ts i ≠ 0 := fun h5 => e ((h.ts0 hi).1 h5)
    change 0 ≤ d.ts i at h0
    grind
  have h2 : 0 < (d.a.D i (lm s.tl i).toNat : Rat) / ((d.a.P (lm s.tl i).toNat : Rat) * (d.a.W i : Rat)) := by
    rw [Rat.div_def]; exact Rat.mul_pos hD (Rat.inv_pos.2 hPW)
  exact Rat.mul_pos hts h2
theorem REnd.above0 {d : RD} {s : RV} (ho : d.Ok) (h : REnd d s) {i j : Nat} (hi : i < d.us.length) (hj : j < d.us.length) (e : nn s.hl j = 0) : ¬ d.lv i < d.lv j := by
  rw [h.lv_zero hj e]
  intro h5
  by_cases e2 : nn s.hl i = 0
  · rw [h.lv_zero hi e2] at h5; grind
  · have := h.lv_pos ho hi e2; grind
theorem REnd.above1 {d : RD} {s : RV} (ho : d.Ok) (h : REnd d s) {i j : Nat} (hi : i < d.us.length) (hj : j < d.us.length) (e : nn s.hl j ≠ 0) (e2 : nn s.hl i = 0) : d.lv i < d.lv j := by
  rw [h.lv_zero hi e2]; exact h.lv_pos ho hj e
theorem REnd.above2 {d : RD} {s : RV} (ho : d.Ok) (h : REnd d s) {i j r t : Nat} (hi : i < d.us.length) (hj : j < d.us.length) (hr : Top1 d i r) (ht : Top1 d j t) :
    d.lv i < d.lv j ↔ nn s.hl i * (d.a.D i r * d.a.P t * d.a.W j) < nn s.hl j * (d.a.D j t * d.a.P r * d.a.W i) := by
  rw [h.lv_eq ho hi hr, h.lv_eq ho hj ht, ← cast_lt]
  have h1 := h.hv i hi
  have h2 := h.hv j hj
  change ((nn s.hl i : Nat) : Rat) = s.q * d.ts i at h1
  change ((nn s.hl j : Nat) : Rat) = s.q * d.ts j at h2
  simp only [cast_mul]
  rw [h1, h2]
  have hq := cast_pos h.q0
  have hPr := cast_pos hr.P
  have hPt := cast_pos ht.P
  have hWi := cast_pos (Nat.lt_of_lt_of_le Nat.zero_lt_one (d.W_le ho hi).1)
  have hWj := cast_pos (Nat.lt_of_lt_of_le Nat.zero_lt_one (d.W_le ho hj).1)
  generalize d.ts i = x at *
  generalize d.ts j = y at *
  generalize (s.q : Rat) = q at *
  generalize (d.a.D i r : Rat) = Di at *
  generalize (d.a.D j t : Rat) = Dj at *
  generalize (d.a.P r : Rat) = Pr at *
  generalize (d.a.P t : Rat) = Pt at *
  generalize (d.a.W i : Rat) = Wi at *
  generalize (d.a.W j : Rat) = Wj at *
  have hA := Rat.mul_pos hPr hWi
  have hB := Rat.mul_pos hPt hWj
  have hAB := Rat.mul_pos hA hB
  have hC := Rat.mul_pos hAB hq
  have e1 : Di / (Pr * Wi) * (Pr * Wi) = Di := div_mul (by grind)
  have e2 : Dj / (Pt * Wj) * (Pt * Wj) = Dj := div_mul (by grind)
  have f1 : x * (Di / (Pr * Wi)) * ((Pr * Wi) * (Pt * Wj) * q) = q * x * (Di * Pt * Wj) := by
    calc x * (Di / (Pr * Wi)) * ((Pr * Wi) * (Pt * Wj) * q) = q * x * (Di / (Pr * Wi) * (Pr * Wi) * (Pt * Wj)) := by grind
      _ = _ := by rw [e1]; grind
  have f2 : y * (Dj / (Pt * Wj)) * ((Pr * Wi) * (Pt * Wj) * q) = q * y * (Dj * Pr * Wi) := by
    calc y * (Dj / (Pt * Wj)) * ((Pr * Wi) * (Pt * Wj) * q) = q * y * (Dj / (Pt * Wj) * (Pt * Wj) * (Pr * Wi)) := by grind
      _ = _ := by rw [e2]; grind
  rw [← f1, ← f2]
  constructor
  · intro h5; exact Rat.mul_lt_mul_of_pos_right h5 hC
  · intro h5
    apply Classical.byContradiction
    intro h6
    have := mul_le_right (Rat.not_lt.1 h6) (show (0 : Rat) ≤ (Pr * Wi) * (Pt * Wj) * q by grind)
    grind
/-- does kind r hold user i in the end? -/
def HoldsN (d : RD) (r i : Nat) : Prop := 0 < lm (ug d.us i).dem r ∧ used (prb d.pool d.us) (endS d.pool d.us).ts r = ((lm d.pool r : Int) : Rat) ∧ ∀ j, j < d.us.length → 0 < lm (ug d.us j).dem r → ¬ d.lv i < d.lv j
theorem holdsN_iff {d : RD} {r i : Nat} : HoldsN d r i ↔ HoldsB d.fd (endS d.pool d.us) r i := by
  unfold HoldsN HoldsB
  rw [upB_of d.fd_of, decide_eq_true_eq, highB_iff]
  show _ ∧ totF d.us (endS d.pool d.us).ts r d.us.length = _ ∧ _ ↔ _
  constructor
  · rintro ⟨h1, h2, h3⟩
    exact ⟨h1, h2, fun j hj h5 => Rat.not_lt.1 (h3 j hj h5)⟩
  · rintro ⟨h1, h2, h3⟩
    exact ⟨h1, h2, fun j hj h5 => Rat.not_lt.2 (h3 j hj h5)⟩
/-- what share tells -/
theorem REnd.text {d : RD} {s : RV} (h : REnd d s) {i : Nat} (hi : i < d.us.length) : mkRat (sg false (nn s.hl i)) s.q = d.ts i := by
  have h1 := h.hv i hi
  change ((nn s.hl i : Nat) : Rat) = s.q * d.ts i at h1
  have hq := cast_pos h.q0
  rw [rat_of]
  show (((nn s.hl i : Nat) : Int) : Rat) / ((s.q : Int) : Rat) = _
  have e1 : (((nn s.hl i : Nat) : Int) : Rat) = ((nn s.hl i : Nat) : Rat) := rfl
  have e2 : ((s.q : Int) : Rat) = (s.q : Rat) := rfl
  rw [e1, e2, h1]
  generalize (s.q : Rat) = q at *
  generalize d.ts i = x
  have hne : q ≠ 0 := by grind
  rw [Rat.div_def]
  have := Rat.mul_inv_cancel q hne
  grind
theorem REnd.level {d : RD} {s : RV} (ho : d.Ok) (h : REnd d s) {i m : Nat} (hi : i < d.us.length) (ht : Top1 d i m) : mkRat (sg false (nn s.hl i * d.a.D i m)) (s.q * (d.a.P m * d.a.W i)) = d.lv i := by
  rw [h.lv_eq ho hi ht]
  have h1 := h.hv i hi
  change ((nn s.hl i : Nat) : Rat) = s.q * d.ts i at h1
  have hq := cast_pos h.q0
  have hP := cast_pos ht.P
  have hW := cast_pos (Nat.lt_of_lt_of_le Nat.zero_lt_one (d.W_le ho hi).1)
  rw [rat_of]
  have e1 : ((sg false (nn s.hl i * d.a.D i m) : Int) : Rat) = ((nn s.hl i : Nat) : Rat) * (d.a.D i m : Rat) := by rw [← cast_mul]; rfl
  have e2 : (((s.q * (d.a.P m * d.a.W i) : Nat) : Int) : Rat) = (s.q : Rat) * ((d.a.P m : Rat) * (d.a.W i : Rat)) := by rw [← cast_mul, ← cast_mul]; rfl
  rw [e1, e2, h1]
  generalize (s.q : Rat) = q at *
  generalize d.ts i = x at *
  generalize (d.a.D i m : Rat) = D at *
  have hPW := Rat.mul_pos hP hW
  generalize (d.a.P m : Rat) * (d.a.W i : Rat) = B at *
  have hB : B ≠ 0 := by grind
  have hqn : q ≠ 0 := by grind
  have hqB : q * B ≠ 0 := by have := Rat.mul_pos hq hPW; grind
  have f1 : q * x * D / (q * B) * (q * B) = q * x * D := div_mul hqB
  have f2 : D / B * B = D := div_mul hB
  have f3 : x * (D / B) * (q * B) = q * x * D := by
    calc x * (D / B) * (q * B) = q * x * (D / B * B) := by grind
      _ = _ := by rw [f2]
  grind
theorem REnd.level0 {d : RD} {s : RV} (ho : d.Ok) (h : REnd d s) {i : Nat} (hi : i < d.us.length) (e : lm s.tl i < 0) : d.lv i = 0 := by
  rcases h.tops.get ho hi with ⟨_, hz⟩ | ⟨h1, _⟩
  · exact h.lv_zero hi ((h.ts0 hi).1 (h.fair.none i hi hz))
  · omega
theorem REnd.cap {d : RD} {s : RV} (ho : d.Ok) (h : REnd d s) {i : Nat} (hi : i < d.us.length) : nn s.hl i = d.a.C i * s.q ↔ (endS d.pool d.us).ts i = (((ug d.us i).cap : Int) : Rat) := by
  have h1 := h.hv i hi
  have hq := cast_pos h.q0
  have hC := nat_int_rat (d.C_eq ho hi)
  rw [← hC, ← Por.cast_eq, cast_mul, h1]
  generalize (s.q : Rat) = q at *
  generalize (endS d.pool d.us).ts i = x
  generalize ((d.a.C i : Nat) : Rat) = c
  have hne : q ≠ 0 := by grind
  constructor <;> intro e <;> grind
end Go.Proofs.YtigokanoflkinaaGreatDoor
