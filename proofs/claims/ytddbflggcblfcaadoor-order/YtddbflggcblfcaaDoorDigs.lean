/- How many digits a fraction has. -/
import Derived.Test.YtddbflggcblfcaaDoorRatB
import Derived.WalkKit
namespace Go.Proofs.YtddbflggcblfcaaDoor
set_option linter.unusedSimpArgs false
set_option linter.unusedVariables false
open Por
open Go.Lib (decDigits)

theorem txt_int (n : Int) : txt (n : Rat) = Go.Lib.itoa n := by
  unfold txt Go.Lib.itoa negB
  have e1 : (n : Rat).num = n := Rat.num_intCast n
  have e2 : (n : Rat).den = 1 := Rat.den_intCast n
  rw [e1, e2]
  by_cases h : n < 0
  · simp [h]
  · simp only [h, decide_false, Bool.false_eq_true, if_false, List.nil_append, Nat.lt_irrefl, List.append_nil]
    congr 1
    omega

/-- fewer than k digits above and below -/
def Dg (q : Rat) (k : Nat) : Prop := q.num.natAbs < 10 ^ k ∧ q.den < 10 ^ k
theorem Dg.txt {q : Rat} {k : Nat} (h : Dg q k) (hk : 1 ≤ k) : (txt q).length ≤ 2 * k + 2 := by
  have h1 := len_dec_lt hk h.1
  have h2 := len_dec_lt hk h.2
  unfold Por.txt
  by_cases hn : negB q = true <;> by_cases hd : 1 < q.den <;> simp [hn, hd] <;> omega
theorem mk_le (n : Int) (d : Nat) (hd : d ≠ 0) : (mkRat n d).num.natAbs ≤ n.natAbs ∧ (mkRat n d).den ≤ d := by
  have e : mkRat n d = Rat.normalize n d hd := by unfold mkRat; rw [dif_neg hd]
  rw [e, Rat.normalize_eq]
  exact ⟨Int.natAbs_ediv_le_natAbs _ _, Nat.div_le_self _ _⟩
theorem mul_lt {a b i j : Nat} (ha : a < 10 ^ i) (hb : b < 10 ^ j) : a * b < 10 ^ (i + j) := by
  rw [Nat.pow_add]; exact Nat.mul_lt_mul_of_lt_of_lt ha hb
theorem Dg.add {x y : Rat} {a b : Nat} (hx : Dg x a) (hy : Dg y b) : Dg (x + y) (a + b + 1) := by
  rw [add_sg]
  obtain ⟨h1, h2⟩ := mk_le (sg (negB x) (x.num.natAbs * y.den) + sg (negB y) (y.num.natAbs * x.den)) (x.den * y.den) (Nat.mul_ne_zero x.den_nz y.den_nz)
  have l1 := mul_lt hx.1 hy.2
  have l2 := mul_lt hy.1 hx.2
  have l3 := mul_lt hx.2 hy.2
  have l4 := Int.natAbs_add_le (sg (negB x) (x.num.natAbs * y.den)) (sg (negB y) (y.num.natAbs * x.den))
  rw [sg_abs, sg_abs] at l4
  rw [Nat.add_comm b a] at l2
  have hp : 10 ^ (a + b + 1) = 10 ^ (a + b) * 10 := Nat.pow_succ _ _
  exact ⟨by omega, by omega⟩
theorem Dg.neg {x : Rat} {a : Nat} (hx : Dg x a) : Dg (-x) a := by
  have e1 : (-x).num = -x.num := rfl
  have e2 : (-x).den = x.den := rfl
  unfold Dg
  rw [e1, e2, Int.natAbs_neg]; exact hx
theorem Dg.sub {x y : Rat} {a b : Nat} (hx : Dg x a) (hy : Dg y b) : Dg (x - y) (a + b + 1) := by rw [Rat.sub_eq_add_neg]; exact hx.add hy.neg
theorem Dg.mul {x y : Rat} {a b : Nat} (hx : Dg x a) (hy : Dg y b) : Dg (x * y) (a + b) := by
  rw [mul_sg]
  obtain ⟨h1, h2⟩ := mk_le (sg (negB x != negB y) (x.num.natAbs * y.num.natAbs)) (x.den * y.den) (Nat.mul_ne_zero x.den_nz y.den_nz)
  rw [sg_abs] at h1
  have l1 := mul_lt hx.1 hy.1
  have l3 := mul_lt hx.2 hy.2
  exact ⟨by omega, by omega⟩
theorem Dg.div {x y : Rat} {a b : Nat} (hx : Dg x a) (hy : Dg y b) (h0 : y ≠ 0) : Dg (x / y) (a + b) := by
  rw [div_sg x y h0]
  obtain ⟨h1, h2⟩ := mk_le (sg (negB x != negB y) (x.num.natAbs * y.den)) (x.den * y.num.natAbs) (Nat.mul_ne_zero x.den_nz (fun h => h0 ((num_zero y).1 h)))
  rw [sg_abs] at h1
  have l1 := mul_lt hx.1 hy.2
  have l3 := mul_lt hx.2 hy.1
  exact ⟨by omega, by omega⟩
theorem Dg.int (n : Int) (h0 : -9223372036854775808 ≤ n) (h1 : n ≤ 9223372036854775807) : Dg (n : Rat) 19 := by
  have e1 : (n : Rat).num = n := Rat.num_intCast n
  have e2 : (n : Rat).den = 1 := Rat.den_intCast n
  unfold Dg
  rw [e1, e2]
  exact ⟨by omega, by omega⟩
theorem Dg.ok {q : Rat} {k : Nat} (h : Dg q k) (hk : 1 ≤ k) (hk2 : k ≤ 149) : readL (⟨(Por.txt q).toArray⟩ : ByteArray).data.toList = some q := by
  have := h.txt hk
  exact readL_txt q (by omega)
end Go.Proofs.YtddbflggcblfcaaDoor
