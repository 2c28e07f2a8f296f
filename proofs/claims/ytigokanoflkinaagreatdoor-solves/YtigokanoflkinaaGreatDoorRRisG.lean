/- The rise of the reference: where it begins and where it ends, in numbers. -/
import Derived.Test.YtigokanoflkinaaGreatDoorRRisE
import Derived.Test.YtigokanoflkinaaGreatDoorKFilA
namespace Go.Proofs.YtigokanoflkinaaGreatDoor
set_option linter.unusedSimpArgs false
set_option linter.unusedVariables false
open Go.RowKit Por

def prdT (f : Nat → Nat) : Nat → Nat
  | 0 => 1
  | n + 1 => prdT f n * f n
theorem prdT_le {f : Nat → Nat} {M : Nat} (hM : 0 < M) : ∀ n, (∀ i, i < n → f i ≤ M) → prdT f n ≤ M ^ n := by
  intro n
  induction n with
  | zero => intro _; exact Nat.le_refl _
  | succ n ih =>
    intro h
    rw [Nat.pow_succ]
    exact Nat.mul_le_mul (ih (fun i hi => h i (by omega))) (h n (by omega))
theorem prdT_pos {f : Nat → Nat} : ∀ n, (∀ i, i < n → 0 < f i) → 0 < prdT f n := by
  intro n
  induction n with
  | zero => intro _; exact Nat.one_pos
  | succ n ih => intro h; exact Nat.mul_pos (ih (fun i hi => h i (by omega))) (h n (by omega))
theorem prdT_congr {f h : Nat → Nat} : ∀ n, (∀ i, i < n → f i = h i) → prdT f n = prdT h n := by
  intro n
  induction n with
  | zero => intro _; rfl
  | succ n ih => intro e; simp only [prdT]; rw [ih (fun i hi => e i (by omega)), e n (by omega)]
theorem prdT_one {f h : Nat → Nat} {i : Nat} (hf : f i = 1) (he : ∀ j, j ≠ i → f j = h j) : ∀ n, i < n → prdT f n * h i = prdT h n := by
  intro n
  induction n with
  | zero => intro h; omega
  | succ n ih =>
    intro hi
    simp only [prdT]
    by_cases e : i = n
    · subst e
      rw [hf, Nat.mul_one, prdT_congr i (fun j hj => he j (by omega))]
    · have := ih (by omega)
      rw [he n (fun h => e h.symm), ← this]
      ac_rfl

/-- the demand of user j for its top kind -/
def RD.tD (d : RD) (tl : List Int) (j : Nat) : Nat := d.a.D j (lm tl j).toNat
def gF (d : RD) (tl : List Int) (i j : Nat) : Nat := if j ≠ i ∧ 0 ≤ lm tl j then d.tD tl j else 1
def gAll (d : RD) (tl : List Int) (j : Nat) : Nat := if 0 ≤ lm tl j then d.tD tl j else 1
/-- the growth of user i -/
def grT (d : RD) (tl : List Int) (i : Nat) : Nat := if 0 ≤ lm tl i then d.a.W i * d.a.P (lm tl i).toNat * prdT (gF d tl i) d.us.length else 0

theorem RD.W_eq {d : RD} (h : d.Ok) {i : Nat} (hi : i < d.us.length) : (ug d.us i).wt = ((d.a.W i : Nat) : Int) := by
  have := h.good.wt hi
  show (ug d.us i).wt = (((ug d.us i).wt.toNat : Nat) : Int); omega
theorem RD.W_le {d : RD} (h : d.Ok) {i : Nat} (hi : i < d.us.length) : 1 ≤ d.a.W i ∧ d.a.W i ≤ 100 := by have := h.good.wt hi; have := d.W_eq h hi; omega

theorem nat_int_rat {n : Nat} {z : Int} (h : z = (n : Int)) : ((n : Nat) : Rat) = ((z : Int) : Rat) := by rw [h]; rfl
theorem ug_out {us : List Usr} {i : Nat} (h : us.length ≤ i) : ug us i = ⟨[], 0, 0⟩ := by
  unfold ug; simp [List.getD, List.getElem?_eq_none h]
/-- the reference's problem is the program's -/
theorem RD.toP_eq {d : RD} (h : d.Ok) : d.a.toP = prb d.pool d.us := by
  have hP : (fun r => ((d.a.P r : Nat) : Rat)) = fun r => ((lm d.pool r : Int) : Rat) := funext fun r => nat_int_rat (d.P_eq h r)
  have hD : (fun i r => ((d.a.D i r : Nat) : Rat)) = fun i r => dm d.us i r := funext fun i => funext fun r => by
    show _ = ((lm (ug d.us i).dem r : Int) : Rat)
    by_cases hi : i < d.us.length
    · exact nat_int_rat (d.D_eq h hi r)
    · refine nat_int_rat ?_
      show lm (ug d.us i).dem r = (((lm (ug d.us i).dem r).toNat : Nat) : Int)
      rw [ug_out (by omega)]; rfl
  have hW : (fun i => ((d.a.W i : Nat) : Rat)) = fun i => (((ug d.us i).wt : Int) : Rat) := funext fun i => by
    by_cases hi : i < d.us.length
    · exact nat_int_rat (d.W_eq h hi)
    · refine nat_int_rat ?_
      show (ug d.us i).wt = (((ug d.us i).wt.toNat : Nat) : Int)
      rw [ug_out (by omega)]; rfl
  have hC : (fun i => ((d.a.C i : Nat) : Rat)) = fun i => (((ug d.us i).cap : Int) : Rat) := funext fun i => by
    by_cases hi : i < d.us.length
    · exact nat_int_rat (d.C_eq h hi)
    · refine nat_int_rat ?_
      show (ug d.us i).cap = (((ug d.us i).cap.toNat : Nat) : Int)
      rw [ug_out (by omega)]; rfl
  show (⟨d.us.length, d.pool.length, _, _, _, _⟩ : Prob) = _
  unfold prb
  rw [← hP, ← hD, ← hW, ← hC]
def RD.g (d : RD) : Nat → Rat := rateU d.pool d.us d.pool.length
theorem RD.ok {d : RD} (h : d.Ok) : d.a.toP.Ok := by rw [d.toP_eq h]; exact prb_ok h.good h.pool
theorem RD.rate {d : RD} (h : d.Ok) : Rate d.a.toP d.g := by rw [d.toP_eq h]; exact prb_rate h.good h.pool

/-- the tops are as they are told -/
def Tops (d : RD) (tl : List Int) : Prop := ∀ i, i < d.us.length → TopIs d.pool (ug d.us i) (lm tl i)
structure Top1 (d : RD) (i m : Nat) : Prop where
  lt : m < d.pool.length
  D : 0 < d.a.D i m
  P : 0 < d.a.P m
  rate : d.g i * (d.a.D i m : Rat) = (d.a.W i : Rat) * (d.a.P m : Rat)
theorem Tops.get {d : RD} {tl : List Int} (h : d.Ok) (ht : Tops d tl) {i : Nat} (hi : i < d.us.length) : (lm tl i = -1 ∧ d.g i = 0) ∨ (0 ≤ lm tl i ∧ (((lm tl i).toNat : Nat) : Int) = lm tl i ∧ Top1 d i (lm tl i).toNat) := by
  rcases ht i hi with ⟨e, h1⟩ | ⟨m, e, hm, hd, hp, hw, hb⟩
  · left
    refine ⟨e, ?_⟩
    rcases h1 with ⟨r, hr, h2, h3⟩ | h2
    · have hdr := (amt_rng (h.good.dem hi r)).1
      exact rate_zero (prb_ok h.good h.pool) (prb_rate h.good h.pool) (i := i) (r := r) hi hr (int_pos.2 (by omega)) (by show ((lm d.pool r : Int) : Rat) = 0; rw [h3]; rfl)
    · obtain ⟨r, hr, h3⟩ := h.good.some hi
      have := h2 r hr; omega
  · right
    have em : (lm tl i).toNat = m := by omega
    have hD := d.D_eq h hi m
    have hP := d.P_eq h m
    rw [em]
    refine ⟨by omega, by omega, hm, by omega, by omega, ?_⟩
    have h9 := rank_of h.good h.pool hi hm hd hp hw hb
    rw [nat_int_rat hD, nat_int_rat hP, nat_int_rat (d.W_eq h hi)]
    exact h9

theorem gr_len {d : RD} {tl : List Int} (h : d.Ok) {i : Nat} (hi : i < d.us.length) : (limbs (grT d tl i)).length ≤ 8 := by
  have hn := h.n6
  have e : (limbs (100 * 10000 * 10000 ^ 6)).length = 8 := by decide
  have h1 : grT d tl i ≤ 100 * 10000 * 10000 ^ 6 := by
    unfold grT
    split
    · refine Nat.mul_le_mul (Nat.mul_le_mul (d.W_le h hi).2 (d.P_le h _)) ?_
      refine Nat.le_trans (prdT_le (M := 10000) (by omega) _ (fun j hj => ?_)) (Nat.pow_le_pow_right (by omega) hn)
      unfold gF RD.tD
      split
      · exact d.D_le h hj _
      · omega
    · exact Nat.zero_le _
  have := len_mono h1
  omega
theorem gr_rate {d : RD} {tl : List Int} (h : d.Ok) (ht : Tops d tl) {i : Nat} (hi : i < d.us.length) : ((grT d tl i : Nat) : Rat) = ((prdT (gAll d tl) d.us.length : Nat) : Rat) * d.g i := by
  rcases ht.get h hi with ⟨e, hz⟩ | ⟨e, _, h1⟩
  · rw [hz]
    have : grT d tl i = 0 := if_neg (by omega)
    rw [this, Rat.mul_zero]; rfl
  · have hg : grT d tl i = d.a.W i * d.a.P (lm tl i).toNat * prdT (gF d tl i) d.us.length := if_pos e
    have hp := prdT_one (f := gF d tl i) (h := gAll d tl) (i := i) (by unfold gF; rw [if_neg (fun h5 => h5.1 rfl)]) (fun j hj => by
      unfold gF gAll
      by_cases e2 : 0 ≤ lm tl j
      · rw [if_pos ⟨hj, e2⟩, if_pos e2]
      · rw [if_neg (fun h5 => e2 h5.2), if_neg e2]) d.us.length hi
    have e3 : gAll d tl i = d.a.D i (lm tl i).toNat := if_pos e
    rw [e3] at hp
    have hD := cast_pos h1.D
    have h9 : ((prdT (gF d tl i) d.us.length : Nat) : Rat) * (d.a.D i (lm tl i).toNat : Rat) = ((prdT (gAll d tl) d.us.length : Nat) : Rat) := by rw [← cast_mul, hp]
    rw [hg, cast_mul, cast_mul, ← h9]
    have h8 := h1.rate
    generalize ((prdT (gF d tl i) d.us.length : Nat) : Rat) = x at *
    generalize (d.a.D i (lm tl i).toNat : Rat) = y at *
    generalize (d.a.W i : Rat) = z at *
    generalize (d.a.P (lm tl i).toNat : Rat) = v at *
    generalize d.g i = u at *
    calc z * v * x = (u * y) * x := by rw [h8]
      _ = x * y * u := by grind
theorem gAll_pos {d : RD} {tl : List Int} (h : d.Ok) (ht : Tops d tl) : 0 < prdT (gAll d tl) d.us.length := by
  refine prdT_pos _ (fun j hj => ?_)
  unfold gAll
  split
  · rename_i e
    rcases ht.get h hj with ⟨e1, _⟩ | ⟨_, _, h1⟩
    · omega
    · exact h1.D
  · omega

/-- a rise on its way: t turns are behind it -/
structure RIn (d : RD) (s : RV) (t : Nat) : Prop where
  tl : s.tl.length = d.us.length
  gl : s.gl.length = d.us.length
  hl : s.hl.length = d.us.length
  sl : s.sl.length = d.us.length
  tops : Tops d s.tl
  gr : ∀ i, i < d.us.length → nn s.gl i = grT d s.tl i
  q : (limbs s.q).length ≤ 1 + 16 * t
  inv : ∃ s0 : St, Inv d.a.toP d.g s0 ∧ Abs d.a d.g s0 s.R
  cnt : Por.cnt (fun i => s.R.still i = true) d.us.length + t ≤ d.us.length

/-- what has stopped is left -/
theorem left_le {a : NProb} {g : Nat → Rat} {s : St} {R : RS} (hA : Abs a g s R) (hb : Borne a.toP s.ts) {r : Nat} (hr : r < a.k) {m : Nat} (hm : m < a.n) (hs : R.still m = false) : a.D m r * R.hv m ≤ leftT a R r m := by
  have h1 := left_sum hA hb hr m (by omega)
  have h2 := left_sum hA hb hr (m + 1) (by omega)
  have hv := hA.hv m hm hs
  have h3 : sumN (fun i => if R.still i then 0 else s.ts i * (a.D i r : Rat)) (m + 1) ≤ a.P r := by
    have h4 : (0 : Rat) ≤ ((leftT a R r (m + 1) : Nat) : Rat) := cast_nonneg _
    rw [h2] at h4
    have hq := cast_pos hA.q
    apply le_of_mul (c := (R.q : Rat)) _ hq
    grind
  simp only [sumN, hs, Bool.false_eq_true, if_false] at h3
  rw [← cast_le, cast_mul, h1, hv]
  have hq := cast_pos hA.q
  have := mul_le_left h3 (show (0 : Rat) ≤ R.q by grind)
  grind
theorem RIn.hle {d : RD} {s : RV} {t : Nat} (h : RIn d s t) : ∀ r, r < d.pool.length → ∀ i, i < d.us.length → bn s.sl i = false → d.a.D i r * nn s.hl i ≤ leftT d.a s.R r i := by
  intro r hr i hi hs
  obtain ⟨s0, hI, hA⟩ := h.inv
  exact left_le hA hI.borne hr hi hs
theorem RIn.hv_le {d : RD} {s : RV} {t : Nat} (h : RIn d s t) {i : Nat} (hi : i < d.us.length) : nn s.hl i ≤ d.a.C i * s.q := by
  obtain ⟨s0, hI, hA⟩ := h.inv
  cases hs : s.R.still i with
  | true => have h9 : nn s.hl i = 0 := hA.hv0 i hi hs; omega
  | false =>
    have h1 : ((nn s.hl i : Nat) : Rat) = s.q * s0.ts i := hA.hv i hi hs
    rw [← cast_le, cast_mul, h1]
    have h2 := hI.borne.cap i hi
    have h3 := mul_le_left h2 (cast_nonneg s.q)
    change (s.q : Rat) * s0.ts i ≤ (s.q : Rat) * (d.a.C i : Rat) at h3
    grind
theorem RIn.ok {d : RD} {s : RV} {t : Nat} (ho : d.Ok) (h : RIn d s t) : s.Ok d := by
  have hn := ho.n6
  have hc := h.cnt
  have hq := h.q
  refine ⟨h.tl, h.gl, h.hl, h.sl, by omega, fun i hi => ?_, fun i hi => ?_⟩
  · have h1 := len_mono (h.hv_le hi)
    have h2 := len_mul (d.a.C i) s.q
    have h3 := len_sml (Nat.le_trans (d.C_le ho hi) (by omega : 1000 ≤ 10000))
    omega
  · rw [h.gr i hi]; exact gr_len ho hi

/-- one turn -/
theorem RIn.turn {d : RD} {s s' : RV} {t : Nat} (ho : d.Ok) (h : RIn d s t) (hne : (nextT d.a (nn s.gl) s.R).2.1 ≠ 0) (hS : (limbs (nextT d.a (nn s.gl) s.R).2.1).length ≤ 16) (e1 : s'.tl = s.tl) (e2 : s'.gl = s.gl) (e3 : s'.hl.length = d.us.length) (e4 : s'.sl.length = d.us.length)
    (hT : TurnT d.a (nn s.gl) s.R s'.R) : RIn d s' (t + 1) := by
  obtain ⟨s0, hI, hA⟩ := h.inv
  have hr := turn_abs (d.ok ho) (d.rate ho) (gAll_pos ho h.tops) (fun i hi => by rw [h.gr i hi]; exact gr_rate ho h.tops hi) hI hA hT hne
  obtain ⟨⟨s1, hI1, hA1⟩, hc⟩ := hr
  have hcn := h.cnt
  have hc2 : Por.cnt (fun i => s'.R.still i = true) d.us.length < Por.cnt (fun i => s.R.still i = true) d.us.length := hc
  refine ⟨by rw [e1]; exact h.tl, by rw [e2]; exact h.gl, e3, e4, by rw [e1]; exact h.tops, fun i hi => by rw [e1, e2]; exact h.gr i hi, ?_, ⟨s1, hI1, hA1⟩, by omega⟩
  have hq : s'.q = if (nextT d.a (nn s.gl) s.R).2.2 then s.q * (nextT d.a (nn s.gl) s.R).2.1 else s.q := hT.q
  rw [hq]
  have h1 := h.q
  split
  · have := len_mul s.q (nextT d.a (nn s.gl) s.R).2.1
    omega
  · omega

/-- where the reference begins -/
structure RBeg (d : RD) (s : RV) : Prop where
  tl : s.tl.length = d.us.length
  gl : s.gl.length = d.us.length
  hl : s.hl.length = d.us.length
  sl : s.sl.length = d.us.length
  tops : Tops d s.tl
  gr : ∀ i, i < d.us.length → nn s.gl i = grT d s.tl i
  hv : ∀ i, i < d.us.length → nn s.hl i = 0
  st : ∀ i, i < d.us.length → bn s.sl i = (decide (0 ≤ lm s.tl i) && decide (0 < (ug d.us i).cap))
  q : s.q = 1
theorem cnt_le (S : Nat → Prop) : ∀ k, Por.cnt S k ≤ k := by
  intro k
  induction k with
  | zero => exact Nat.le_refl _
  | succ k ih => unfold Por.cnt; split <;> omega
theorem RBeg.inn {d : RD} {s : RV} (ho : d.Ok) (h : RBeg d s) : RIn d s 0 := by
  refine ⟨h.tl, h.gl, h.hl, h.sl, h.tops, h.gr, by rw [h.q]; decide, ?_, by have := cnt_le (fun i => s.R.still i = true) d.us.length; omega⟩
  have hrate : ∀ i, i < d.us.length → 0 ≤ lm s.tl i → d.g i ≠ 0 := fun i hi e h5 => by
    rcases h.tops.get ho hi with ⟨e1, _⟩ | ⟨_, _, h1⟩
    · omega
    · have h9 := h1.rate
      rw [h5, Rat.zero_mul] at h9
      have := Rat.mul_pos (cast_pos (Nat.lt_of_lt_of_le Nat.zero_lt_one (d.W_le ho hi).1)) (cast_pos h1.P)
      grind
  refine ⟨⟨0, fun i => if bn s.sl i = true then d.g i else 0, fun _ => 0, fun _ => 0⟩, Inv.first (d.ok ho) (d.rate ho) _ (fun i hi => ?_), ⟨by show 0 < s.q; rw [h.q]; omega, fun i hi => ?_, fun i hi hs => ?_, fun i hi hs => h.hv i hi⟩⟩
  · cases e : bn s.sl i with
    | true => left; exact if_pos rfl
    | false =>
      have e2 := h.st i hi
      rw [e] at e2
      by_cases h5 : 0 ≤ lm s.tl i
      · right
        refine ⟨if_neg Bool.false_ne_true, ?_⟩
        have h6 : ¬ 0 < (ug d.us i).cap := fun h6 => by rw [decide_eq_true h5, decide_eq_true h6] at e2; cases e2
        have h7 := d.C_eq ho hi
        show ((d.a.C i : Nat) : Rat) = 0
        have : d.a.C i = 0 := by omega
        rw [this]; rfl
      · left
        rcases h.tops.get ho hi with ⟨_, e1⟩ | ⟨h6, _⟩
        · rw [e1]; exact if_neg Bool.false_ne_true
        · exact absurd h6 h5
  · show bn s.sl i = true ↔ (if bn s.sl i = true then d.g i else 0) ≠ 0
    cases e : bn s.sl i with
    | true =>
      have e2 := h.st i hi
      rw [e] at e2
      have h5 : 0 ≤ lm s.tl i := by
        apply Classical.byContradiction; intro h5
        rw [decide_eq_false h5] at e2; cases e2
      simp only [if_true, true_iff]
      exact hrate i hi h5
    | false => simp
  · show ((nn s.hl i : Nat) : Rat) = s.q * 0
    rw [h.hv i hi, Rat.mul_zero]; rfl

/-- where it ends: the fair filling, that the program finds too -/
structure REnd (d : RD) (s : RV) : Prop where
  tl : s.tl.length = d.us.length
  gl : s.gl.length = d.us.length
  hl : s.hl.length = d.us.length
  sl : s.sl.length = d.us.length
  tops : Tops d s.tl
  q0 : 0 < s.q
  hv : ∀ i, i < d.us.length → ((nn s.hl i : Nat) : Rat) = s.q * (endS d.pool d.us).ts i
  lf : ∀ r, r < d.pool.length → (lft d.a s.R r = 0 ↔ used (prb d.pool d.us) (endS d.pool d.us).ts r = ((lm d.pool r : Int) : Rat))
  fair : FairFill (prb d.pool d.us) d.g (endS d.pool d.us).ts
  lv : ∀ i, i < d.us.length → (endS d.pool d.us).lv i = (endS d.pool d.us).ts i / d.g i
theorem RIn.fin {d : RD} {s : RV} {t : Nat} (ho : d.Ok) (h : RIn d s t) (hz : (nextT d.a (nn s.gl) s.R).2.1 = 0) : REnd d s := by
  obtain ⟨s0, hI, hA⟩ := h.inv
  have hG := cast_pos (gAll_pos ho h.tops)
  have hgr0 : ∀ i, i < d.a.n → s.R.still i = true → 0 < nn s.gl i := fun i hi hs => by
    have h1 := (hA.still i hi).1 hs
    have h2 := (hI.grow i hi h1).1
    have h3 := (d.rate ho).pos i hi
    rw [h2] at h1
    apply cast_lt.1
    rw [h.gr i hi, gr_rate ho h.tops hi]
    exact Rat.mul_pos hG (by grind)
  have hoff := next_none hgr0 (fun i hi => by
    obtain ⟨r, hr, h3⟩ := ho.good.some hi
    refine ⟨r, hr, ?_⟩
    have := d.D_eq ho hi r
    have := (amt_rng (ho.good.dem hi r)).1
    omega) hz
  have hrt : ∀ i, i < d.us.length → s0.rt i = 0 := fun i hi => by
    apply Classical.byContradiction
    intro h5
    have h6 := hoff i hi
    rw [(hA.still i hi).2 h5] at h6; cases h6
  have hl := hI.last (d.rate ho) hrt
  rw [d.toP_eq ho] at hl
  obtain ⟨hf, hlv⟩ := endS_fair ho.good ho.pool
  have hu := unique (prb_ok ho.good ho.pool) (prb_rate ho.good ho.pool) hl.1 hf
  refine ⟨h.tl, h.gl, h.hl, h.sl, h.tops, hA.q, fun i hi => ?_, fun r hr => ?_, hf, hlv⟩
  · rw [← hu i hi]; exact hA.hv i hi (hoff i hi)
  · have h1 := left_sum hA hI.borne hr d.a.n (Nat.le_refl _)
    have h2 : sumN (fun i => if s.R.still i then 0 else s0.ts i * (d.a.D i r : Rat)) d.a.n = used (prb d.pool d.us) (endS d.pool d.us).ts r := by
      show _ = sumN (fun i => (endS d.pool d.us).ts i * (prb d.pool d.us).D i r) d.us.length
      refine sumN_congr (fun i hi => ?_)
      rw [hoff i hi, ← hu i hi, ← d.toP_eq ho]; rfl
    rw [h2] at h1
    have hq := cast_pos hA.q
    have hP : ((d.a.P r : Nat) : Rat) = ((lm d.pool r : Int) : Rat) := nat_int_rat (d.P_eq ho r)
    rw [hP] at h1
    change ((lft d.a s.R r : Nat) : Rat) = _ at h1
    constructor
    · intro e
      rw [e] at h1
      have z : ((0 : Nat) : Rat) = 0 := rfl
      rw [z] at h1
      have hne : (s.R.q : Rat) ≠ 0 := by grind
      grind
    · intro e
      rw [e] at h1
      apply cast_eq.1
      have z : ((0 : Nat) : Rat) = 0 := rfl
      rw [z, h1]; grind
end Go.Proofs.YtigokanoflkinaaGreatDoor
