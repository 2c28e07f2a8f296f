/- Plain facts on numbers written in limbs of the base 10000, the least first. -/
namespace Go.Proofs.YtddbflggcblfcaaDoor.Por

/-! plain numbers: limbs of the base 10000, least first -/

def limbsF : Nat → Nat → List Int
  | 0, _ => []
  | f + 1, n => if n = 0 then [] else ((n % 10000 : Nat) : Int) :: limbsF f (n / 10000)
def limbs (n : Nat) : List Int := limbsF n n

def val : List Int → Int
  | [] => 0
  | x :: xs => x + 10000 * val xs

/-- limb j; 0 behind the last -/
def lm (xs : List Int) (j : Nat) : Int := xs.getD j 0

def Lim (xs : List Int) : Prop := ∀ x ∈ xs, 0 ≤ x ∧ x < 10000

theorem limbsF_enough : ∀ (f g n : Nat), n ≤ f → n ≤ g → limbsF f n = limbsF g n
  | 0, g, n, hf, _ => by
    obtain rfl : n = 0 := by omega
    cases g <;> simp [limbsF]
  | f + 1, 0, n, _, hg => by
    obtain rfl : n = 0 := by omega
    simp [limbsF]
  | f + 1, g + 1, n, hf, hg => by
    unfold limbsF
    by_cases h : n = 0
    · simp [h]
    · rw [if_neg h, if_neg h, limbsF_enough f g (n / 10000) (by omega) (by omega)]

theorem limbs_zero : limbs 0 = [] := rfl
theorem limbs_pos (n : Nat) (h : n ≠ 0) : limbs n = ((n % 10000 : Nat) : Int) :: limbs (n / 10000) := by
  obtain ⟨m, rfl⟩ : ∃ m, n = m + 1 := ⟨n - 1, by omega⟩
  unfold limbs
  rw [limbsF, if_neg h, limbsF_enough m ((m + 1) / 10000) _ (by omega) (by omega)]

theorem limbs_ind (P : Nat → Prop) (h0 : P 0) (hs : ∀ n, n ≠ 0 → P (n / 10000) → P n) (n : Nat) : P n := by
  induction n using Nat.strongRecOn with
  | ind n ih =>
    by_cases h : n = 0
    · subst h; exact h0
    · exact hs n h (ih _ (by omega))

theorem val_limbs (n : Nat) : val (limbs n) = n := by
  induction n using limbs_ind with
  | h0 => simp [limbs_zero, val]
  | hs n h ih => rw [limbs_pos n h, val, ih]; omega

theorem lim_limbs (n : Nat) : Lim (limbs n) := by
  induction n using limbs_ind with
  | h0 => simp [limbs_zero, Lim]
  | hs n h ih =>
    rw [limbs_pos n h]
    intro x hx
    rcases List.mem_cons.1 hx with rfl | hx
    · omega
    · exact ih x hx

theorem val_nonneg {xs : List Int} (h : Lim xs) : 0 ≤ val xs := by
  induction xs with
  | nil => simp [val]
  | cons x xs ih =>
    have := ih (fun y hy => h y (by simp [hy]))
    have := h x (by simp)
    simp only [val]; omega

theorem limbs_ne_nil {n : Nat} (h : n ≠ 0) : limbs n ≠ [] := by rw [limbs_pos n h]; simp
theorem limbs_eq_nil {n : Nat} : limbs n = [] ↔ n = 0 := by
  constructor
  · intro h; by_cases e : n = 0
    · exact e
    · exact absurd h (limbs_ne_nil e)
  · rintro rfl; rfl

/-- no nought at the top -/
def Topped (xs : List Int) : Prop := xs.getLast? ≠ some 0

theorem limbs_of {xs : List Int} (h : Lim xs) (ht : Topped xs) : limbs (val xs).toNat = xs := by
  induction xs with
  | nil => simp [val, limbs_zero]
  | cons x xs ih =>
    have hx := h x (by simp)
    have hl : Lim xs := fun y hy => h y (by simp [hy])
    have hv := val_nonneg hl
    by_cases e : xs = []
    · subst e
      have : x ≠ 0 := by intro e; apply ht; simp [e]
      have e2 : val [x] = x := by simp [val]
      rw [e2, limbs_pos _ (by omega)]
      have e3 : x.toNat / 10000 = 0 := by omega
      rw [e3, limbs_zero]
      have : ((x.toNat % 10000 : Nat) : Int) = x := by omega
      rw [this]
    · have ht' : Topped xs := by
        intro hc; apply ht
        rw [List.getLast?_cons, hc]; simp
      have ih := ih hl ht'
      have hne : val xs ≠ 0 := by
        intro hc; rw [hc] at ih; exact e (by simpa [limbs_zero] using ih.symm)
      simp only [val]
      rw [limbs_pos _ (by omega)]
      have e3 : (x + 10000 * val xs).toNat / 10000 = (val xs).toNat := by omega
      rw [e3, ih]
      have : (((x + 10000 * val xs).toNat % 10000 : Nat) : Int) = x := by omega
      rw [this]

theorem topped_limbs (n : Nat) : Topped (limbs n) := by
  induction n using limbs_ind with
  | h0 => simp [limbs_zero, Topped]
  | hs n h ih =>
    rw [limbs_pos n h]
    unfold Topped at *
    by_cases e : n / 10000 = 0
    · rw [e, limbs_zero]; simp; omega
    · rw [List.getLast?_cons]
      cases hc : (limbs (n / 10000)).getLast? with
      | none => exact absurd (List.getLast?_eq_none_iff.1 hc) (limbs_ne_nil e)
      | some v => rw [hc] at ih; simpa using ih

theorem val_append (xs ys : List Int) : val (xs ++ ys) = val xs + 10000 ^ xs.length * val ys := by
  induction xs with
  | nil => simp [val]
  | cons x xs ih => simp only [List.cons_append, val, ih, List.length_cons, Int.pow_succ]; grind

theorem val_lt {xs : List Int} (h : Lim xs) : val xs < 10000 ^ xs.length := by
  induction xs with
  | nil => simp [val]
  | cons x xs ih =>
    have := ih (fun y hy => h y (by simp [hy]))
    have := h x (by simp)
    simp only [val, List.length_cons, Int.pow_succ]; omega

/-- trimmed: a list whose tail behind n is noughts -/
theorem val_take_of_zero (xs : List Int) (n : Nat) (hz : ∀ i, n ≤ i → i < xs.length → lm xs i = 0) : val (xs.take n) = val xs := by
  unfold lm at *
  induction xs generalizing n with
  | nil => simp
  | cons x xs ih =>
    cases n with
    | zero =>
      have h0 := hz 0 (by omega) (by simp)
      simp at h0
      have := ih 0 (fun i _ hi => by have := hz (i + 1) (by omega) (by simp; omega); simpa using this)
      simp [val] at this ⊢; omega
    | succ n =>
      have := ih n (fun i h hi => by have := hz (i + 1) (by omega) (by simp; omega); simpa using this)
      simp only [List.take_succ_cons, val, this]

theorem lim_take {xs : List Int} (h : Lim xs) (n : Nat) : Lim (xs.take n) := fun x hx => h x (List.mem_of_mem_take hx)

/-- what trim gives -/
theorem trim_eq (xs : List Int) (n : Nat) (hL : Lim xs) (hn : n ≤ xs.length) (hz : ∀ i, n ≤ i → i < xs.length → lm xs i = 0) (ht : n = 0 ∨ lm xs (n - 1) ≠ 0) : xs.take n = limbs (val xs).toNat := by
  unfold lm at *
  rw [← val_take_of_zero xs n hz]
  refine (limbs_of (lim_take hL n) ?_).symm
  unfold Topped
  rcases ht with rfl | ht
  · simp
  · by_cases e : n = 0
    · subst e; simp
    · rw [List.getLast?_eq_getElem?, List.length_take, Nat.min_eq_left hn, List.getElem?_take, if_pos (by omega)]
      rw [List.getD_eq_getElem?_getD] at ht
      intro hc; rw [hc] at ht; simp at ht

theorem len_limbs_lt (n : Nat) : n < 10000 ^ (limbs n).length := by
  have h := val_lt (lim_limbs n)
  rw [val_limbs] at h
  have e : ((10000 ^ (limbs n).length : Nat) : Int) = 10000 ^ (limbs n).length := Int.natCast_pow 10000 _
  omega

theorem len_limbs_le {n k : Nat} (h : n < 10000 ^ k) : (limbs n).length ≤ k := by
  induction n using limbs_ind generalizing k with
  | h0 => simp [limbs_zero]
  | hs n hn ih =>
    rw [limbs_pos n hn]
    cases k with
    | zero => simp at h; omega
    | succ k => simp only [List.length_cons]; have := @ih k (by rw [Nat.pow_succ] at h; omega); omega

theorem pow_le_of_len {n : Nat} (h : n ≠ 0) : 10000 ^ ((limbs n).length - 1) ≤ n := by
  induction n using limbs_ind with
  | h0 => exact absurd rfl h
  | hs n hn ih =>
    rw [limbs_pos n hn]
    by_cases e : n / 10000 = 0
    · rw [e, limbs_zero, List.length_singleton, Nat.sub_self, Nat.pow_zero]; omega
    · have := ih e
      have hl : 1 ≤ (limbs (n / 10000)).length := by have := limbs_ne_nil e; cases hq : limbs (n / 10000) <;> simp_all
      simp only [List.length_cons, Nat.add_sub_cancel]
      obtain ⟨m, hm⟩ : ∃ m, (limbs (n / 10000)).length = m + 1 := ⟨_, (Nat.sub_add_cancel hl).symm⟩
      rw [hm] at this ⊢
      simp only [Nat.add_sub_cancel] at this
      rw [Nat.pow_succ]; omega

theorem len_mono {a b : Nat} (h : a ≤ b) : (limbs a).length ≤ (limbs b).length := len_limbs_le (Nat.lt_of_le_of_lt h (len_limbs_lt b))
theorem len_mul (a b : Nat) : (limbs (a * b)).length ≤ (limbs a).length + (limbs b).length := by
  apply len_limbs_le
  rw [Nat.pow_add]
  have h1 := len_limbs_lt a; have h2 := len_limbs_lt b
  exact Nat.mul_lt_mul_of_lt_of_lt h1 h2
theorem len_add (a b : Nat) : (limbs (a + b)).length ≤ max (limbs a).length (limbs b).length + 1 := by
  apply len_limbs_le
  have h1 := len_limbs_lt a; have h2 := len_limbs_lt b
  have h3 : 10000 ^ (limbs a).length ≤ 10000 ^ max (limbs a).length (limbs b).length := Nat.pow_le_pow_right (by omega) (by omega)
  have h4 : 10000 ^ (limbs b).length ≤ 10000 ^ max (limbs a).length (limbs b).length := Nat.pow_le_pow_right (by omega) (by omega)
  rw [Nat.pow_succ]; omega
end Go.Proofs.YtddbflggcblfcaaDoor.Por
