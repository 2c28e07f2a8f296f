/- Plain facts on decimal texts of whole numbers. -/
import Derived.Lib.ItoaNum
import Derived.Test.YtddbflggcblfcaaDoorLimbsC
namespace Go.Proofs.YtddbflggcblfcaaDoor.Por
set_option linter.unusedSimpArgs false
set_option linter.unusedVariables false
open Go.Lib (decDigits)

/-- the number that digits tell -/
def dv (l : List UInt8) : Nat := l.foldl (fun a c => a * 10 + (c.toNat - 48)) 0

theorem dv_fold (l : List UInt8) (a : Nat) : l.foldl (fun a c => a * 10 + (c.toNat - 48)) a = a * 10 ^ l.length + dv l := by
  induction l generalizing a with
  | nil => simp [dv]
  | cons c l ih =>
    unfold dv
    simp only [List.foldl_cons, List.length_cons, Nat.pow_succ]
    rw [ih, ih (0 * 10 + (c.toNat - 48))]
    grind

theorem dv_append (a b : List UInt8) : dv (a ++ b) = dv a * 10 ^ b.length + dv b := by
  have := dv_fold b (dv a)
  unfold dv at this ⊢
  rw [List.foldl_append]; exact this

theorem dv_nil : dv [] = 0 := rfl
theorem dv_one (c : UInt8) : dv [c] = c.toNat - 48 := by simp [dv]
theorem dv_snoc (a : List UInt8) (c : UInt8) : dv (a ++ [c]) = dv a * 10 + (c.toNat - 48) := by rw [dv_append, dv_one]; simp

def isDig (c : UInt8) : Bool := decide (48 ≤ c.toNat) && decide (c.toNat ≤ 57)
/-- all bytes are digits, at least one, with no nought in front of others -/
def wholeB (l : List UInt8) : Bool := !l.isEmpty && l.all isDig && (l.length == 1 || l.head? != some 48)

theorem isDig_iff (c : UInt8) : isDig c = true ↔ 48 ≤ c.toNat ∧ c.toNat ≤ 57 := by simp [isDig]

theorem dec_small {n : Nat} (h : n < 10) : decDigits n = [UInt8.ofNat (48 + n)] := by rw [decDigits, dif_pos h]
theorem dec_big {n : Nat} (h : ¬ n < 10) : decDigits n = decDigits (n / 10) ++ [UInt8.ofNat (48 + n % 10)] := by rw [decDigits, dif_neg h]
theorem toNat_dig (n : Nat) (h : n < 10) : (UInt8.ofNat (48 + n)).toNat = 48 + n := by
  rw [UInt8.toNat_ofNat']; omega
theorem ofNat_dig (c : UInt8) (h : 48 ≤ c.toNat) : UInt8.ofNat (48 + (c.toNat - 48)) = c := by
  apply UInt8.toNat_inj.1
  have := c.toNat_lt
  rw [UInt8.toNat_ofNat']; omega

theorem dv_lt (l : List UInt8) (h : l.all isDig = true) : dv l < 10 ^ l.length := by
  induction l with
  | nil => simp [dv]
  | cons c l ih =>
    rw [List.all_cons, Bool.and_eq_true, isDig_iff] at h
    have := ih h.2
    have e := dv_append [c] l
    rw [List.singleton_append, dv_one] at e
    rw [e, List.length_cons, Nat.pow_succ]
    have : (c.toNat - 48) * 10 ^ l.length ≤ 9 * 10 ^ l.length := Nat.mul_le_mul_right _ (by omega)
    omega

theorem snoc_ind {P : List UInt8 → Prop} (h0 : P []) (hs : ∀ l c, P l → P (l ++ [c])) (l : List UInt8) : P l := by
  rw [← List.reverse_reverse l]
  induction l.reverse with
  | nil => exact h0
  | cons c l ih => rw [List.reverse_cons]; exact hs _ _ ih

theorem dv_pos (l : List UInt8) (c : UInt8) (hc : 49 ≤ c.toNat) : 1 ≤ dv (c :: l) := by
  have e := dv_append [c] l
  rw [List.singleton_append, dv_one] at e
  rw [e]
  have : 1 * 1 ≤ (c.toNat - 48) * 10 ^ l.length := Nat.mul_le_mul (by omega) (Nat.one_le_pow _ _ (by omega))
  omega

theorem wholeB_iff (l : List UInt8) : wholeB l = true ↔ l ≠ [] ∧ l.all isDig = true ∧ (l.length = 1 ∨ l.head? ≠ some 48) := by
  unfold wholeB
  cases l with
  | nil => simp
  | cons c l => simp [and_assoc]

/-- digits with no nought in front are the numeral of what they tell -/
theorem dec_dv (l : List UInt8) (h : wholeB l = true) : decDigits (dv l) = l := by
  induction l using snoc_ind with
  | h0 => simp [wholeB] at h
  | hs l c ih =>
    obtain ⟨_, h2, h3⟩ := (wholeB_iff _).1 h
    rw [List.all_append, Bool.and_eq_true] at h2
    have hc : isDig c = true := by simpa using h2.2
    rw [isDig_iff] at hc
    rw [dv_snoc]
    cases l with
    | nil => rw [dv_nil, Nat.zero_mul, Nat.zero_add, dec_small (by omega), ofNat_dig c hc.1]; rfl
    | cons d l =>
      have hd : d.toNat ≠ 48 := by
        rcases h3 with h3 | h3
        · simp at h3
        · intro hc; apply h3; simp; exact UInt8.toNat_inj.1 hc
      have hdd : isDig d = true := by have := h2.1; rw [List.all_cons, Bool.and_eq_true] at this; exact this.1
      rw [isDig_iff] at hdd
      have hw : wholeB (d :: l) = true := by
        rw [wholeB_iff]
        refine ⟨by simp, h2.1, .inr ?_⟩
        intro hc; apply hd; simp at hc; rw [hc]; rfl
      have hp := dv_pos l d (by omega)
      rw [dec_big (by omega)]
      have e1 : (dv (d :: l) * 10 + (c.toNat - 48)) / 10 = dv (d :: l) := by omega
      have e2 : (dv (d :: l) * 10 + (c.toNat - 48)) % 10 = c.toNat - 48 := by omega
      rw [e1, e2, ofNat_dig c hc.1, ih hw]

theorem dec_facts (n : Nat) : decDigits n ≠ [] ∧ (decDigits n).all isDig = true ∧ dv (decDigits n) = n ∧ (n ≠ 0 → (decDigits n).head? ≠ some 48) := by
  induction n using Nat.strongRecOn with
  | ind n ih =>
    by_cases h : n < 10
    · rw [dec_small h]
      refine ⟨by simp, ?_, ?_, ?_⟩
      · simp only [List.all_cons, List.all_nil, Bool.and_true, isDig_iff, toNat_dig n h]; omega
      · rw [dv_one, toNat_dig n h]; omega
      · intro h0 hc
        rw [List.head?_cons] at hc
        have := congrArg UInt8.toNat (Option.some.inj hc)
        rw [toNat_dig n h] at this
        have e : (48 : UInt8).toNat = 48 := rfl
        omega
    · obtain ⟨a, b, c, d⟩ := ih (n / 10) (by omega)
      rw [dec_big h]
      refine ⟨by simp, ?_, ?_, ?_⟩
      · rw [List.all_append, b]
        simp only [List.all_cons, List.all_nil, Bool.and_true, Bool.true_and, isDig_iff, toNat_dig (n % 10) (by omega)]; omega
      · rw [dv_snoc, c, toNat_dig _ (by omega)]; omega
      · intro _
        have := d (by omega)
        cases hq : decDigits (n / 10) with
        | nil => exact absurd hq a
        | cons e l => rw [hq] at this; simpa using this

theorem dv_dec (n : Nat) : dv (decDigits n) = n := (dec_facts n).2.2.1
theorem whole_dec (n : Nat) : wholeB (decDigits n) = true := by
  obtain ⟨a, b, c, d⟩ := dec_facts n
  rw [wholeB_iff]
  refine ⟨a, b, ?_⟩
  by_cases h : n = 0
  · left; subst h; rw [dec_small (by omega)]; rfl
  · right; exact d h

/-- four digits -/
def pad4 (m : Nat) : List UInt8 := [UInt8.ofNat (48 + m / 1000 % 10), UInt8.ofNat (48 + m / 100 % 10), UInt8.ofNat (48 + m / 10 % 10), UInt8.ofNat (48 + m % 10)]
theorem dec_pad (a m : Nat) (ha : 1 ≤ a) (hm : m < 10000) : decDigits (m + 10000 * a) = decDigits a ++ pad4 m := by
  rw [dec_big (by omega), dec_big (n := (m + 10000 * a) / 10) (by omega), dec_big (n := (m + 10000 * a) / 10 / 10) (by omega), dec_big (n := (m + 10000 * a) / 10 / 10 / 10) (by omega)]
  have e1 : (m + 10000 * a) / 10 / 10 / 10 / 10 = a := by omega
  have e2 : (m + 10000 * a) / 10 / 10 / 10 % 10 = m / 1000 % 10 := by omega
  have e3 : (m + 10000 * a) / 10 / 10 % 10 = m / 100 % 10 := by omega
  have e4 : (m + 10000 * a) / 10 % 10 = m / 10 % 10 := by omega
  have e5 : (m + 10000 * a) % 10 = m % 10 := by omega
  rw [e1, e2, e3, e4, e5]
  simp [pad4]

theorem len_dec_lt {n k : Nat} (hk : 1 ≤ k) (h : n < 10 ^ k) : (decDigits n).length ≤ k := by
  induction k generalizing n with
  | zero => omega
  | succ k ih =>
    by_cases h1 : n < 10
    · rw [dec_small h1]; simp
    · rw [dec_big h1, List.length_append, List.length_singleton]
      have hk1 : 1 ≤ k := by
        rcases Nat.eq_zero_or_pos k with h0 | h0
        · subst h0; simp at h; omega
        · exact h0
      have := @ih (n / 10) hk1 (by rw [Nat.pow_succ] at h; omega)
      omega

/-- the round of reading: a chunk of four digits, or what is left in front -/
theorem parse_step (l : List UInt8) (e k : Nat) (o : List Int) (hk : k < o.length) (he : e ≤ l.length)
    (h : (dv l : Int) = dv (l.take e) * 10000 ^ k + val (o.take k)) :
    (dv l : Int) = dv (l.take (e - 4)) * 10000 ^ (k + 1) + val ((o.set k (dv ((l.take e).drop (e - 4)) : Nat)).take (k + 1)) := by
  rw [val_set_take o k _ hk, Int.pow_succ]
  have e1 : l.take e = l.take (e - 4) ++ (l.take e).drop (e - 4) := by
    have := (List.take_append_drop (e - 4) (l.take e)).symm
    rwa [List.take_take, Nat.min_eq_left (by omega)] at this
  by_cases h4 : 4 ≤ e
  · have hl : ((l.take e).drop (e - 4)).length = 4 := by rw [List.length_drop, List.length_take]; omega
    have e2 : dv (l.take e) = dv (l.take (e - 4)) * 10000 + dv ((l.take e).drop (e - 4)) := by
      have := dv_append (l.take (e - 4)) ((l.take e).drop (e - 4))
      rw [← e1, hl] at this
      exact this
    rw [h, e2, Int.natCast_add, Int.natCast_mul]
    generalize (10000 : Int) ^ k = P at *
    grind
  · have e2 : e - 4 = 0 := by omega
    rw [h, e2, List.take_zero, dv_nil, List.drop_zero]
    generalize (10000 : Int) ^ k = P at *
    grind
end Go.Proofs.YtddbflggcblfcaaDoor.Por
