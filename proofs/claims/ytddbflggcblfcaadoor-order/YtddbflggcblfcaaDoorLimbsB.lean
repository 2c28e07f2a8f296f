/- Plain facts on sums, differences, products and orders of numbers written in limbs. -/
import Derived.Test.YtddbflggcblfcaaDoorLimbsA
namespace Go.Proofs.YtddbflggcblfcaaDoor.Por

theorem val_take_succ (xs : List Int) (k : Nat) : val (xs.take (k + 1)) = val (xs.take k) + 10000 ^ k * lm xs k := by
  unfold lm at *
  by_cases h : k < xs.length
  · rw [List.take_succ_eq_append_getElem h, val_append, List.length_take, Nat.min_eq_left (by omega)]
    simp [val, h]
  · rw [List.take_of_length_le (by omega), List.take_of_length_le (by omega), List.getD_eq_getElem?_getD, List.getElem?_eq_none (by omega)]
    simp

theorem take_set_succ (xs : List Int) (k : Nat) (v : Int) (h : k < xs.length) : (xs.set k v).take (k + 1) = xs.take k ++ [v] := by
  rw [List.take_succ_eq_append_getElem (by simpa using h), List.take_set_of_le (by omega)]; simp

theorem val_set_take (xs : List Int) (k : Nat) (v : Int) (h : k < xs.length) : val ((xs.set k v).take (k + 1)) = val (xs.take k) + 10000 ^ k * v := by
  rw [take_set_succ xs k v h, val_append, List.length_take, Nat.min_eq_left (by omega)]; simp [val]

theorem lim_getD {xs : List Int} (h : Lim xs) (k : Nat) : 0 ≤ lm xs k ∧ lm xs k < 10000 := by
  unfold lm at *
  rw [List.getD_eq_getElem?_getD]
  by_cases hk : k < xs.length
  · rw [List.getElem?_eq_getElem hk]; exact h _ (List.getElem_mem hk)
  · rw [List.getElem?_eq_none (by omega)]; simp

theorem lim_set {xs : List Int} (h : Lim xs) (k : Nat) (v : Int) (h0 : 0 ≤ v) (h1 : v < 10000) : Lim (xs.set k v) := by
  intro x hx
  rcases List.mem_or_eq_of_mem_set hx with hx | rfl
  · exact h x hx
  · exact ⟨h0, h1⟩

theorem lim_replicate (n : Nat) : Lim (List.replicate n 0) := by
  intro x hx; have := List.eq_of_mem_replicate hx; omega

/-- the round of a sum -/
theorem add_step (o A B : List Int) (k : Nat) (c s : Int) (hk : k < o.length) (hs : s = lm A k + lm B k + c)
    (h : val (o.take k) + 10000 ^ k * c = val (A.take k) + val (B.take k)) :
    val ((o.set k (s % 10000)).take (k + 1)) + 10000 ^ (k + 1) * (s / 10000) = val (A.take (k + 1)) + val (B.take (k + 1)) := by
  rw [val_set_take o k _ hk, val_take_succ, val_take_succ, Int.pow_succ]
  have e : s = s % 10000 + 10000 * (s / 10000) := by omega
  generalize s % 10000 = m at *
  generalize s / 10000 = q at *
  generalize (10000 : Int) ^ k = P at *
  grind

/-- the round of a difference; b: what is borrowed -/
theorem sub_step (o A B : List Int) (k : Nat) (b r b' : Int) (hk : k < o.length) (hr : r - 10000 * b' = lm A k - lm B k - b)
    (h : val (o.take k) - 10000 ^ k * b = val (A.take k) - val (B.take k)) :
    val ((o.set k r).take (k + 1)) - 10000 ^ (k + 1) * b' = val (A.take (k + 1)) - val (B.take (k + 1)) := by
  rw [val_set_take o k _ hk, val_take_succ, val_take_succ, Int.pow_succ]
  generalize (10000 : Int) ^ k = P at *
  grind

/-- a list written at one place -/
theorem val_set (xs : List Int) (k : Nat) (v : Int) (h : k < xs.length) : val (xs.set k v) = val xs + 10000 ^ k * (v - lm xs k) := by
  unfold lm at *
  induction xs generalizing k with
  | nil => simp at h
  | cons x xs ih =>
    cases k with
    | zero => simp [val]; omega
    | succ k =>
      have := ih k (by simpa using h)
      simp only [List.set_cons_succ, val, this, List.getD_cons_succ, Int.pow_succ]
      grind

/-- the inner round of a product: limb i + j of o takes x times y and what is carried -/
theorem mul_step (o B : List Int) (i j : Nat) (x c s V : Int) (hk : i + j < o.length) (hs : s = lm o (i + j) + x * lm B j + c)
    (h : val o + 10000 ^ (i + j) * c = V + 10000 ^ i * (x * val (B.take j))) :
    val (o.set (i + j) (s % 10000)) + 10000 ^ (i + (j + 1)) * (s / 10000) = V + 10000 ^ i * (x * val (B.take (j + 1))) := by
  rw [val_set o _ _ hk, val_take_succ, ← Nat.add_assoc, Int.pow_succ, Int.pow_add] at *
  have e : s = s % 10000 + 10000 * (s / 10000) := by omega
  generalize s % 10000 = m at *
  generalize s / 10000 = q at *
  generalize (10000 : Int) ^ i = P at *
  generalize (10000 : Int) ^ j = R at *
  grind

theorem mul_bound (l x y c : Int) (hl : 0 ≤ l ∧ l < 10000) (hx : 0 ≤ x ∧ x < 10000) (hy : 0 ≤ y ∧ y < 10000) (hc : 0 ≤ c ∧ c < 10000) :
    0 ≤ x * y ∧ x * y ≤ 99980001 ∧ 0 ≤ l + x * y + c ∧ l + x * y + c ≤ 99999999 := by
  have h1 : 0 ≤ x * y := Int.mul_nonneg hx.1 hy.1
  have h2 : x * y ≤ 9999 * 9999 := Int.mul_le_mul (by omega) (by omega) hy.1 (by omega)
  omega

/-- the sign of what is between two lists of one length is that of their first parting limb from the top -/
theorem val_cmp_lt (A B : List Int) (hA : Lim A) (hB : Lim B) (n : Nat) (hn : A.length = n) (hm : B.length = n) (k : Nat) (hk : k < n)
    (he : ∀ i, k < i → i < n → lm A i = lm B i) (hlt : lm A k < lm B k) : val A < val B := by
  have e : ∀ m, k + 1 ≤ m → m ≤ n → val (A.take m) < val (B.take m) := by
    intro m hm1
    induction m with
    | zero => omega
    | succ m ih =>
      intro hm2
      rw [val_take_succ, val_take_succ]
      by_cases hq : m = k
      · subst hq
        have h1 := val_lt (lim_take hA m)
        rw [List.length_take, Nat.min_eq_left (by omega)] at h1
        have h2 := val_nonneg (lim_take hB m)
        have hp : (0 : Int) < 10000 ^ m := Int.pow_pos (by omega)
        have h3 : (10000 : Int) ^ m * (lm A m + 1) ≤ 10000 ^ m * lm B m := Int.mul_le_mul_of_nonneg_left (by omega) (by omega)
        rw [Int.mul_add, Int.mul_one] at h3
        omega
      · have := ih (by omega) (by omega)
        rw [he m (by omega) (by omega)]
        omega
  have := e n (by omega) (Nat.le_refl n)
  rwa [List.take_of_length_le (by omega), List.take_of_length_le (by omega)] at this

theorem ext_getD {A B : List Int} (n : Nat) (hn : A.length = n) (hm : B.length = n) (h : ∀ i, i < n → lm A i = lm B i) : A = B := by
  unfold lm at *
  refine List.ext_getElem (by omega) fun i h1 h2 => ?_
  have := h i (by omega)
  simpa [List.getD_eq_getElem?_getD, h1, h2] using this

theorem val_lt_of_len {A B : List Int} (hA : Lim A) (hB : Lim B) (ht : Topped B) (h : A.length < B.length) : val A < val B := by
  have h1 := val_lt hA
  have h2 : 10000 ^ (B.length - 1) ≤ (val B).toNat := by
    have e := limbs_of hB ht
    have hne : (val B).toNat ≠ 0 := by
      intro hc; rw [hc, limbs_zero] at e; rw [← e] at h; simp at h
    have := pow_le_of_len hne
    rwa [e] at this
  have h3 : (10000 : Int) ^ A.length ≤ 10000 ^ (B.length - 1) := by
    have h4 : (10000 : Nat) ^ A.length ≤ 10000 ^ (B.length - 1) := Nat.pow_le_pow_right (by omega) (by omega)
    have e1 : ((10000 ^ A.length : Nat) : Int) = 10000 ^ A.length := Int.natCast_pow 10000 _
    have e2 : ((10000 ^ (B.length - 1) : Nat) : Int) = 10000 ^ (B.length - 1) := Int.natCast_pow 10000 _
    omega
  have e2 : ((10000 ^ (B.length - 1) : Nat) : Int) = 10000 ^ (B.length - 1) := Int.natCast_pow 10000 _
  have := val_nonneg hB
  omega

end Go.Proofs.YtddbflggcblfcaaDoor.Por
