/- Content: what users get out of bundles. -/
import Derived.Test.YtigokanoflkinabDoorKBun
namespace Go.Proofs.YtigokanoflkinabDoor
set_option linter.unusedSimpArgs false
set_option linter.unusedVariables false
open Go.RowKit Por

theorem big_bound4 : (10000 ^ 6 * 6000000) ^ 4 * 1000 < 10 ^ 128 := by decide
theorem pow_bound4 {G m : Nat} (hG : 0 < G) (h : G ≤ 10000 ^ 6) (hm : m ≤ 4) : (G * 6000000) ^ m ≤ (10000 ^ 6 * 6000000) ^ 4 := by
  have h1 : (G * 6000000) ^ m ≤ (G * 6000000) ^ 4 := Nat.pow_le_pow_right (by omega) hm
  have h2 : (G * 6000000) ^ 4 ≤ (10000 ^ 6 * 6000000) ^ 4 := Nat.pow_le_pow_left (Nat.mul_le_mul_right _ h) 4
  exact Nat.le_trans h1 h2
/-- what users are due has not too many digits -/
theorem due_dg {pool : List Int} {us : List Usr} (hg : Good us pool.length) (hpa : ∀ i, amtB (lm pool i) = true) (hn : us.length ≤ 6) (hk : pool.length ≤ 4) {i : Nat} (hi : i < us.length) : Dg ((endS pool us).ts i) 128 := by
  obtain ⟨G, hG0, hGb, hGi, _⟩ := rates_den hg hn
  have hf := (endS_fair hg hpa).1
  obtain ⟨Q, hQ0, hQb, hQi⟩ := den_all (prb_ok hg hpa) (prb_rate hg hpa) hf (fun i hi => ⟨_, rfl⟩) (fun i r hi hr => ⟨_, rfl⟩) (fun r hr => ⟨_, rfl⟩) G 6000000 hG0 (by decide) hGi (fun r hr => sumW_le hg hpa hn hr)
  have hc := hg.cap (i := i) hi
  obtain ⟨h1, h2⟩ := den_of (M := 1000) hQ0 (hQi i hi) (hf.low i hi) (Rat.le_trans (hf.cap i hi) ((int_le (b := 1000)).2 hc.2))
  have hb := big_bound4
  have hQB := Nat.le_trans hQb (pow_bound4 (m := (prb pool us).k) hG0 hGb hk)
  generalize (10000 ^ 6 * 6000000) ^ 4 = B at hQB hb
  have h4 : Q * 1000 ≤ B * 1000 := Nat.mul_le_mul_right _ hQB
  have h5 : B ≤ B * 1000 := Nat.le_mul_of_pos_right B (by decide)
  exact ⟨by omega, by omega⟩

theorem tx_map (l : List Rat) {r : Nat} (hr : r < l.length) : tx (l.map tb) r = tb (rq l r) := by
  unfold tx rq
  rw [List.getD_eq_getElem?_getD, List.getElem?_map, List.getElem?_eq_getElem hr, List.getD_eq_getElem?_getD, List.getElem?_eq_getElem hr]; rfl
theorem tb_read {q : Rat} {k : Nat} (h : Dg q k) (hk : 1 ≤ k) (hk2 : k ≤ 149) : readL (tb q).data.toList = some q := h.ok hk hk2
theorem svs_map {l : List Rat} {k : Nat} (h : ∀ r, r < l.length → Dg (rq l r) k) (hk : 1 ≤ k) (hk2 : k ≤ 149) {r : Nat} (hr : r < l.length) : svs (l.map tb) r = rq l r := by
  unfold svs sv
  rw [tx_map l hr, tb_read (h r hr) hk hk2]; rfl
theorem ok_map {l : List Rat} {k : Nat} (h : ∀ r, r < l.length → Dg (rq l r) k) (hk : 1 ≤ k) (hk2 : k ≤ 149) : (l.map tb).all okS = true := by
  rw [List.all_eq_true]
  intro s hs
  obtain ⟨q, hq, rfl⟩ := List.mem_map.1 hs
  obtain ⟨r, hr, e⟩ := mem_rq hq
  unfold okS
  rw [← e, tb_read (h r hr) hk hk2]; rfl
theorem tx_size {l : List Rat} {k : Nat} (h : ∀ r, r < l.length → Dg (rq l r) k) (hk : 1 ≤ k) (hk2 : k ≤ 149) : ∀ i, (tx (l.map tb) i).size ≤ maxLen := by
  intro i
  by_cases hi : i < l.length
  · rw [tx_map l hi]
    have := (h i hi).txt hk
    show (txt (rq l i)).toArray.size ≤ maxLen
    rw [List.size_toArray]
    unfold maxLen; omega
  · unfold tx
    rw [List.getD_eq_getElem?_getD, List.getElem?_eq_none (by simpa using hi)]
    exact Nat.zero_le _
theorem negAny_false {f : Nat → Rat} : ∀ n, (∀ i, i < n → 0 ≤ f i) → negAny f n = false := by
  intro n
  induction n with
  | zero => intro _; rfl
  | succ n ih =>
    intro h
    simp only [negAny]
    rw [ih (fun i hi => h i (by omega)), decide_eq_false (fun h5 => by have := h n (by omega); grind)]; rfl
theorem enL_congr {f g : Nat → Rat} {dem : List Int} : ∀ k, (∀ r, r < k → f r = g r) → enL f dem k = enL g dem k := by
  intro k
  induction k with
  | zero => intro _; rfl
  | succ k ih =>
    intro h
    simp only [enL]
    rw [ih (fun r hr => h r (by omega)), h k (by omega)]
/-- Useful of texts that are fractions, none below 0 -/
theorem useful_map {u : Usr} {l : List Rat} {k : Nat} (h : ∀ r, r < l.length → Dg (rq l r) k) (hk : 1 ≤ k) (hk2 : k ≤ 149) (h0 : ∀ r, r < l.length → 0 ≤ rq l r) (h1 : 1 ≤ l.length) (h4 : l.length ≤ 4) (hu : usrB l.length u = true) : usefulOf u (l.map tb) = (txt (useQ u (rq l) l.length), 0) := by
  have hl : (l.map tb).length = l.length := List.length_map _
  unfold usefulOf
  rw [hl, if_neg (by omega), if_neg, if_neg (by rw [hu]; simp)]
  · unfold useQ
    rw [enL_congr l.length (fun r hr => svs_map h hk hk2 hr)]
  · rw [ok_map h hk hk2, negAny_false l.length (fun i hi => by rw [svs_map h hk hk2 hi]; exact h0 i hi)]
    simp
theorem useQ_dg {u : Usr} {f : Nat → Rat} {n k : Nat} (h : ∀ r, r < n → Dg (f r) k) (hd : ∀ i, amtB (lm u.dem i) = true) (hc : 0 ≤ u.cap ∧ u.cap ≤ 1000) (hk : 4 ≤ k) : Dg (useQ u f n) (k + 5) := by
  unfold useQ
  have hm := leastL_mem (l := enL f u.dem n ++ [((u.cap : Int) : Rat)]) (by simp)
  rcases List.mem_append.1 hm with h1 | h1
  · obtain ⟨r, hr, hz, e⟩ := (mem_enL _).1 h1
    rw [e]
    exact (h r hr).div (Dg.amt (hd r)) (int_rat_zero hz)
  · rw [List.mem_singleton] at h1
    rw [h1]
    have e1 : ((u.cap : Int) : Rat).num = u.cap := Rat.num_intCast _
    have e2 : ((u.cap : Int) : Rat).den = 1 := Rat.den_intCast _
    unfold Dg
    rw [e1, e2]
    have : 10 ^ 4 ≤ 10 ^ (k + 5) := Nat.pow_le_pow_right (by decide) (by omega)
    exact ⟨by omega, by omega⟩
/-- the dues, and another's bundle -/
theorem use_content {pool : List Int} {us : List Usr} (hg : Good us pool.length) (hpa : ∀ i, amtB (lm pool i) = true) {i j : Nat} (hi : i < us.length) (hj : j < us.length) :
    useQ (ug us i) (rq (bunL ((endS pool us).ts j) (fr (ug us i).wt (ug us j).wt) (ug us j).dem pool.length)) pool.length ≤ (endS pool us).ts i := by
  have hwj := hg.wt (i := j) hj
  have hf : fr (ug us i).wt (ug us j).wt = (((ug us i).wt : Int) : Rat) / (((ug us j).wt : Int) : Rat) := by unfold fr; rw [if_neg (by omega)]
  unfold useQ
  rcases content (prb_ok hg hpa) (prb_rate hg hpa) (endS_fair hg hpa).1 (i := i) (j := j) hi hj with h | ⟨r, hr, hD, hle⟩
  · exact Rat.le_trans (leastL_le (v := (((ug us i).cap : Int) : Rat)) (by simp)) h
  · refine Rat.le_trans (leastL_le (v := rq (bunL ((endS pool us).ts j) (fr (ug us i).wt (ug us j).wt) (ug us j).dem pool.length) r / ((lm (ug us i).dem r : Int) : Rat)) ?_) ?_
    · rw [List.mem_append]
      left
      exact (mem_enL _).2 ⟨r, hr, by have := int_pos.1 hD; omega, rfl⟩
    · rw [bunL_get _ _ _ pool.length r hr, hf]; exact hle
theorem use_own {pool : List Int} {us : List Usr} (hg : Good us pool.length) (hpa : ∀ i, amtB (lm pool i) = true) {i : Nat} (hi : i < us.length) :
    useQ (ug us i) (rq (bunL ((endS pool us).ts i) 1 (ug us i).dem pool.length)) pool.length = (endS pool us).ts i := by
  have hf := (endS_fair hg hpa).1
  have key : ∀ r, r < pool.length → lm (ug us i).dem r ≠ 0 → rq (bunL ((endS pool us).ts i) 1 (ug us i).dem pool.length) r / ((lm (ug us i).dem r : Int) : Rat) = (endS pool us).ts i := fun r hr hz => by
    rw [bunL_get _ _ _ _ _ hr]
    have := int_rat_zero hz
    grind
  unfold useQ
  have hm := leastL_mem (l := enL (rq (bunL ((endS pool us).ts i) 1 (ug us i).dem pool.length)) (ug us i).dem pool.length ++ [(((ug us i).cap : Int) : Rat)]) (by simp)
  obtain ⟨r, hr, hd⟩ := hg.some hi
  have hle := leastL_le (l := enL (rq (bunL ((endS pool us).ts i) 1 (ug us i).dem pool.length)) (ug us i).dem pool.length ++ [(((ug us i).cap : Int) : Rat)]) (v := (endS pool us).ts i) (by
    rw [List.mem_append]; left
    exact (mem_enL _).2 ⟨r, hr, by omega, (key r hr (by omega)).symm⟩)
  rcases List.mem_append.1 hm with h1 | h1
  · obtain ⟨r, hr, hz, e⟩ := (mem_enL _).1 h1
    rw [e]; exact key r hr hz
  · rw [List.mem_singleton] at h1
    rw [h1] at hle ⊢
    exact Rat.le_antisymm hle (hf.cap i hi)
theorem bun_nonneg {t q : Rat} {dem : List Int} {k : Nat} (ht : 0 ≤ t) (hq : 0 ≤ q) (hd : ∀ i, amtB (lm dem i) = true) : ∀ r, r < (bunL t q dem k).length → 0 ≤ rq (bunL t q dem k) r := by
  intro r hr
  rw [bunL_len] at hr
  rw [bunL_get _ _ _ _ _ hr]
  exact Rat.mul_nonneg (Rat.mul_nonneg ht (int_nonneg (amt_rng (hd r)).1)) hq
theorem bun_dg {t q : Rat} {dem : List Int} {k a b : Nat} (ht : Dg t a) (hq : Dg q b) (hd : ∀ i, amtB (lm dem i) = true) : ∀ r, r < (bunL t q dem k).length → Dg (rq (bunL t q dem k) r) (a + 5 + b) := by
  intro r hr
  rw [bunL_len] at hr
  rw [bunL_get _ _ _ _ _ hr]
  exact (ht.mul (Dg.amt (hd r))).mul hq
theorem fr_wt {us : List Usr} {k i j : Nat} (hg : Good us k) (hi : i < us.length) (hj : j < us.length) : Dg (fr (ug us i).wt (ug us j).wt) 6 ∧ 0 ≤ fr (ug us i).wt (ug us j).wt := by
  have h1 := hg.wt hi
  have h2 := hg.wt hj
  have d3 : ∀ n : Int, 1 ≤ n → n ≤ 100 → Dg (n : Rat) 3 := fun n a b => by
    have e1 : (n : Rat).num = n := Rat.num_intCast n
    have e2 : (n : Rat).den = 1 := Rat.den_intCast n
    unfold Dg
    rw [e1, e2]
    exact ⟨by omega, by omega⟩
  unfold fr
  rw [if_neg (by omega)]
  exact ⟨(d3 _ h1.1 h1.2).div (d3 _ h2.1 h2.2) (int_rat_zero (by omega)), div_nonneg (int_nonneg (by omega)) (int_nonneg (by omega))⟩
theorem one_dg : Dg 1 1 := by unfold Dg; decide
theorem txt_one : txt 1 = [49] := by
  have e : txt ((1 : Int) : Rat) = Go.Lib.itoa 1 := txt_int 1
  have e2 : Go.Lib.decDigits 1 = [49] := by unfold Go.Lib.decDigits; rfl
  have e3 : Go.Lib.itoa 1 = [49] := by unfold Go.Lib.itoa; rw [if_neg (by decide)]; exact e2
  exact e.trans e3
theorem bundle_one (p : Value) (da : Option Addr) (dn dc : Nat) (u : Usr) (t : Rat) (a : Nat) (w : World) (hd : Arr w 1 da dn dc (ints u.dem)) (hda : ∀ i, amtB (lm u.dem i) = true) (hdn : dn ≤ 4) (hx : Dg t a) (ha1 : 1 ≤ a) (hab : a + 5 + 1 ≤ 149) (ht : Tab w) :
    Calls Tryd.prog 9 #[p, .agg #[.slice da dn dc, .int .i64 u.wt, .int .i64 u.cap], .string ⟨(txt (t)).toArray⟩, .string ⟨#[49]⟩] w fun e w' => ∃ v, e = .returned v ∧ TO (w.heap.size + 1) w' v (bunL t 1 u.dem dn) ∧ Below w.heap.size w w' := by
  have h := bundle_any p da dn dc u t 1 a 1 w hd hda hdn hx one_dg ha1 (by omega) hab ht
  rw [txt_one] at h
  exact h
end Go.Proofs.YtigokanoflkinabDoor
