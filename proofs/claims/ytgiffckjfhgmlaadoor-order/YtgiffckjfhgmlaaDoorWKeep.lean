/- The sums that the statements of portionkeep make by the program's own calls. (Laid by mkkeep.py.) -/
import Derived.Test.YtgiffckjfhgmlaaDoorWExC
namespace Go.Proofs.YtgiffckjfhgmlaaDoor
set_option linter.unusedSimpArgs false
set_option linter.unusedVariables false
open Go.RowKit Por
open Go.Lib (decDigits)

theorem txt_int (n : Int) : txt (n : Rat) = Go.Lib.itoa n := by
  unfold txt Go.Lib.itoa negB
  have e1 : (n : Rat).num = n := Rat.num_intCast n
  have e2 : (n : Rat).den = 1 := Rat.den_intCast n
  rw [e1, e2]
  by_cases h : n < 0
  · simp [h]
  · simp only [h, decide_false, Bool.false_eq_true, if_false, List.nil_append, Nat.lt_irrefl, List.append_nil]
    congr 1
    omega

/-- fewer than k digits above and below -/
def Dg (q : Rat) (k : Nat) : Prop := q.num.natAbs < 10 ^ k ∧ q.den < 10 ^ k
theorem Dg.txt {q : Rat} {k : Nat} (h : Dg q k) (hk : 1 ≤ k) : (txt q).length ≤ 2 * k + 2 := by
  have h1 := len_dec_lt hk h.1
  have h2 := len_dec_lt hk h.2
  unfold Por.txt
  by_cases hn : negB q = true <;> by_cases hd : 1 < q.den <;> simp [hn, hd] <;> omega
theorem mk_le (n : Int) (d : Nat) (hd : d ≠ 0) : (mkRat n d).num.natAbs ≤ n.natAbs ∧ (mkRat n d).den ≤ d := by
  have e : mkRat n d = Rat.normalize n d hd := by unfold mkRat; rw [dif_neg hd]
  rw [e, Rat.normalize_eq]
  exact ⟨Int.natAbs_ediv_le_natAbs _ _, Nat.div_le_self _ _⟩
theorem mul_lt {a b i j : Nat} (ha : a < 10 ^ i) (hb : b < 10 ^ j) : a * b < 10 ^ (i + j) := by
  rw [Nat.pow_add]; exact Nat.mul_lt_mul_of_lt_of_lt ha hb
theorem Dg.add {x y : Rat} {a b : Nat} (hx : Dg x a) (hy : Dg y b) : Dg (x + y) (a + b + 1) := by
  rw [add_sg]
  obtain ⟨h1, h2⟩ := mk_le (sg (negB x) (x.num.natAbs * y.den) + sg (negB y) (y.num.natAbs * x.den)) (x.den * y.den) (Nat.mul_ne_zero x.den_nz y.den_nz)
  have l1 := mul_lt hx.1 hy.2
  have l2 := mul_lt hy.1 hx.2
  have l3 := mul_lt hx.2 hy.2
  have l4 := Int.natAbs_add_le (sg (negB x) (x.num.natAbs * y.den)) (sg (negB y) (y.num.natAbs * x.den))
  rw [sg_abs, sg_abs] at l4
  rw [Nat.add_comm b a] at l2
  have hp : 10 ^ (a + b + 1) = 10 ^ (a + b) * 10 := Nat.pow_succ _ _
  exact ⟨by omega, by omega⟩
theorem Dg.neg {x : Rat} {a : Nat} (hx : Dg x a) : Dg (-x) a := by
  have e1 : (-x).num = -x.num := rfl
  have e2 : (-x).den = x.den := rfl
  unfold Dg
  rw [e1, e2, Int.natAbs_neg]; exact hx
theorem Dg.sub {x y : Rat} {a b : Nat} (hx : Dg x a) (hy : Dg y b) : Dg (x - y) (a + b + 1) := by rw [Rat.sub_eq_add_neg]; exact hx.add hy.neg
theorem Dg.mul {x y : Rat} {a b : Nat} (hx : Dg x a) (hy : Dg y b) : Dg (x * y) (a + b) := by
  rw [mul_sg]
  obtain ⟨h1, h2⟩ := mk_le (sg (negB x != negB y) (x.num.natAbs * y.num.natAbs)) (x.den * y.den) (Nat.mul_ne_zero x.den_nz y.den_nz)
  rw [sg_abs] at h1
  have l1 := mul_lt hx.1 hy.1
  have l3 := mul_lt hx.2 hy.2
  exact ⟨by omega, by omega⟩
theorem Dg.div {x y : Rat} {a b : Nat} (hx : Dg x a) (hy : Dg y b) (h0 : y ≠ 0) : Dg (x / y) (a + b) := by
  rw [div_sg x y h0]
  obtain ⟨h1, h2⟩ := mk_le (sg (negB x != negB y) (x.num.natAbs * y.den)) (x.den * y.num.natAbs) (Nat.mul_ne_zero x.den_nz (fun h => h0 ((num_zero y).1 h)))
  rw [sg_abs] at h1
  have l1 := mul_lt hx.1 hy.2
  have l3 := mul_lt hx.2 hy.1
  exact ⟨by omega, by omega⟩
theorem Dg.int (n : Int) (h0 : -9223372036854775808 ≤ n) (h1 : n ≤ 9223372036854775807) : Dg (n : Rat) 19 := by
  have e1 : (n : Rat).num = n := Rat.num_intCast n
  have e2 : (n : Rat).den = 1 := Rat.den_intCast n
  unfold Dg
  rw [e1, e2]
  exact ⟨by omega, by omega⟩
theorem Dg.ok {q : Rat} {k : Nat} (h : Dg q k) (hk : 1 ≤ k) (hk2 : k ≤ 149) : readL (⟨(Por.txt q).toArray⟩ : ByteArray).data.toList = some q := by
  have := h.txt hk
  exact readL_txt q (by omega)

set_option maxHeartbeats 2000000 in
set_option maxRecDepth 20000 in
theorem look_ok (p : Value) (w : World) : Calls Tryd.prog 42 #[p, .int .i64 0] w fun e w' => e = .returned (.tuple #[]) ∧ w' = w := by
  go_enter Tryd.func42, Tryd.ntmps42
  go_wp2
  go_end0
  exact ⟨rfl, rfl⟩

set_option maxHeartbeats 2000000 in
set_option maxRecDepth 20000 in
theorem k_add (p : Value) (x y : Rat) (i j : Nat) (w : World) (hx : Dg x i) (hy : Dg y j) (hi : 1 ≤ i) (hj : 1 ≤ j) (hi2 : i ≤ 149) (hj2 : j ≤ 149) (ht : Tab w) :
    Calls Tryd.prog 21 #[p, .string ⟨(txt (x)).toArray⟩, .string ⟨(txt (y)).toArray⟩] w fun e w' => e = .returned (.string ⟨(txt (x + y)).toArray⟩) ∧ Below w.heap.size w w' := by
  have C := fun w ht => xAdd_yes ⟨(txt x).toArray⟩ ⟨(txt y).toArray⟩ w x y (hx.ok hi hi2) (hy.ok hj hj2) ht
  have HC := hid C
  have HT := hid ht
  clear C ht hx hy
  go_enter Tryd.func21, Tryd.ntmps21
  go_wp2_with fail
  refine (HC.out _ HT.out).mono ?_
  rintro e w1 ⟨rfl, hb1⟩
  have HB := hid hb1
  clear hb1
  go_wp2_with fail
  refine (look_ok p _).mono ?_
  rintro e w2 ⟨rfl, rfl⟩
  go_wp2
  go_ret
  exact ⟨rfl, HB.out⟩

set_option maxHeartbeats 2000000 in
set_option maxRecDepth 20000 in
theorem k_sub (p : Value) (x y : Rat) (i j : Nat) (w : World) (hx : Dg x i) (hy : Dg y j) (hi : 1 ≤ i) (hj : 1 ≤ j) (hi2 : i ≤ 149) (hj2 : j ≤ 149) (ht : Tab w) :
    Calls Tryd.prog 22 #[p, .string ⟨(txt (x)).toArray⟩, .string ⟨(txt (y)).toArray⟩] w fun e w' => e = .returned (.string ⟨(txt (x - y)).toArray⟩) ∧ Below w.heap.size w w' := by
  have C := fun w ht => xSubtract_yes ⟨(txt x).toArray⟩ ⟨(txt y).toArray⟩ w x y (hx.ok hi hi2) (hy.ok hj hj2) ht
  have HC := hid C
  have HT := hid ht
  clear C ht hx hy
  go_enter Tryd.func22, Tryd.ntmps22
  go_wp2_with fail
  refine (HC.out _ HT.out).mono ?_
  rintro e w1 ⟨rfl, hb1⟩
  have HB := hid hb1
  clear hb1
  go_wp2_with fail
  refine (look_ok p _).mono ?_
  rintro e w2 ⟨rfl, rfl⟩
  go_wp2
  go_ret
  exact ⟨rfl, HB.out⟩

set_option maxHeartbeats 2000000 in
set_option maxRecDepth 20000 in
theorem k_mul (p : Value) (x y : Rat) (i j : Nat) (w : World) (hx : Dg x i) (hy : Dg y j) (hi : 1 ≤ i) (hj : 1 ≤ j) (hi2 : i ≤ 149) (hj2 : j ≤ 149) (ht : Tab w) :
    Calls Tryd.prog 18 #[p, .string ⟨(txt (x)).toArray⟩, .string ⟨(txt (y)).toArray⟩] w fun e w' => e = .returned (.string ⟨(txt (x * y)).toArray⟩) ∧ Below w.heap.size w w' := by
  have C := fun w ht => xMultiply_yes ⟨(txt x).toArray⟩ ⟨(txt y).toArray⟩ w x y (hx.ok hi hi2) (hy.ok hj hj2) ht
  have HC := hid C
  have HT := hid ht
  clear C ht hx hy
  go_enter Tryd.func18, Tryd.ntmps18
  go_wp2_with fail
  refine (HC.out _ HT.out).mono ?_
  rintro e w1 ⟨rfl, hb1⟩
  have HB := hid hb1
  clear hb1
  go_wp2_with fail
  refine (look_ok p _).mono ?_
  rintro e w2 ⟨rfl, rfl⟩
  go_wp2
  go_ret
  exact ⟨rfl, HB.out⟩

set_option maxHeartbeats 2000000 in
set_option maxRecDepth 20000 in
theorem k_div (p : Value) (x y : Rat) (i j : Nat) (w : World) (hx : Dg x i) (hy : Dg y j) (hi : 1 ≤ i) (hj : 1 ≤ j) (hi2 : i ≤ 149) (hj2 : j ≤ 149) (ht : Tab w) (hy0 : y ≠ 0) :
    Calls Tryd.prog 23 #[p, .string ⟨(txt (x)).toArray⟩, .string ⟨(txt (y)).toArray⟩] w fun e w' => e = .returned (.string ⟨(txt (x / y)).toArray⟩) ∧ Below w.heap.size w w' := by
  have C := fun w ht => xDivide_yes ⟨(txt x).toArray⟩ ⟨(txt y).toArray⟩ w x y (hx.ok hi hi2) (hy.ok hj hj2) ht hy0
  have HC := hid C
  have HT := hid ht
  clear C ht hx hy hy0
  go_enter Tryd.func23, Tryd.ntmps23
  go_wp2_with fail
  refine (HC.out _ HT.out).mono ?_
  rintro e w1 ⟨rfl, hb1⟩
  have HB := hid hb1
  clear hb1
  go_wp2_with fail
  refine (look_ok p _).mono ?_
  rintro e w2 ⟨rfl, rfl⟩
  go_wp2
  go_ret
  exact ⟨rfl, HB.out⟩

set_option maxHeartbeats 2000000 in
set_option maxRecDepth 20000 in
theorem k_cmp (p : Value) (x y : Rat) (i j : Nat) (w : World) (hx : Dg x i) (hy : Dg y j) (hi : 1 ≤ i) (hj : 1 ≤ j) (hi2 : i ≤ 149) (hj2 : j ≤ 149) (ht : Tab w) :
    Calls Tryd.prog 24 #[p, .string ⟨(txt (x)).toArray⟩, .string ⟨(txt (y)).toArray⟩] w fun e w' => e = .returned (.int .i64 (cmpQ x y)) ∧ Below w.heap.size w w' := by
  have C := fun w ht => xCompare_yes ⟨(txt x).toArray⟩ ⟨(txt y).toArray⟩ w x y (hx.ok hi hi2) (hy.ok hj hj2) ht
  have HC := hid C
  have HT := hid ht
  clear C ht hx hy
  go_enter Tryd.func24, Tryd.ntmps24
  go_wp2_with fail
  refine (HC.out _ HT.out).mono ?_
  rintro e w1 ⟨rfl, hb1⟩
  have HB := hid hb1
  clear hb1
  go_wp2_with fail
  refine (look_ok p _).mono ?_
  rintro e w2 ⟨rfl, rfl⟩
  go_wp2
  go_ret
  exact ⟨rfl, HB.out⟩

/-- p over q; over 0: over 1 -/
def fr (p q : Int) : Rat := (p : Rat) / ((if q = 0 then 1 else q : Int) : Rat)
theorem int_ne {n : Int} (h : n ≠ 0) : (n : Rat) ≠ 0 := by
  intro hc
  have := congrArg Rat.num hc
  rw [Rat.num_intCast] at this
  exact h this
theorem fr_dg (p q : Int) (p0 : -9223372036854775808 ≤ p) (p1 : p ≤ 9223372036854775807) (q0 : -9223372036854775808 ≤ q) (q1 : q ≤ 9223372036854775807) : Dg (fr p q) 38 := by
  unfold fr
  refine (Dg.int p p0 p1).div (Dg.int _ ?_ ?_) (int_ne ?_)
  all_goals (split <;> omega)

set_option maxHeartbeats 2000000 in
set_option maxRecDepth 20000 in
theorem of_ok (v : Value) (p q : Int) (w : World) (p0 : -9223372036854775808 ≤ p) (p1 : p ≤ 9223372036854775807) (q0 : -9223372036854775808 ≤ q) (q1 : q ≤ 9223372036854775807) (ht : Tab w) (hq : q ≠ 0) :
    Calls Tryd.prog 17 #[v, .int .i64 p, .int .i64 q] w fun e w' => e = .returned (.string ⟨(txt (fr p q)).toArray⟩) ∧ Below w.heap.size w w' := by
  have hq' : (q == 0) = false := by rw [beq_eq_false_iff_ne]; exact hq
  have HE : Hid (fr p q = (p : Rat) / (q : Rat)) := by show _ = _; unfold fr; rw [if_neg hq]
  have HQ := hid (int_ne hq)
  have D1 := hid (Dg.int p p0 p1)
  have D2 := hid (Dg.int q q0 q1)
  have HT0 := hid ht
  clear ht hq
  go_enter Tryd.func17, Tryd.ntmps17
  go_wp2_with fail
  refine (itoa_any p p0 p1 _ HT0.out).mono ?_
  rintro e w1 ⟨rfl, hb1⟩
  have HB1 := hid hb1
  have HT1 := hid (HT0.out.below hb1)
  clear hb1
  rw [← txt_int]
  go_wp2_with fail
  refine (itoa_any q q0 q1 _ HT1.out).mono ?_
  rintro e w2 ⟨rfl, hb2⟩
  have HB2 : Hid (Below w.heap.size w w2) := HB1.out.trans (hb2.mono HB1.out.size)
  have HT2 := hid (HT1.out.below hb2)
  clear hb2
  rw [← txt_int]
  go_wp2_with fail
  refine (k_div v _ _ 19 19 _ D1.out D2.out (by omega) (by omega) (by omega) (by omega) HT2.out HQ.out).mono ?_
  rintro e w3 ⟨rfl, hb3⟩
  have HB3 : Hid (Below w.heap.size w w3) := HB2.out.trans (hb3.mono HB2.out.size)
  clear hb3
  rw [← HE.out]
  go_wp2
  go_ret
  exact ⟨rfl, HB3.out⟩

set_option maxHeartbeats 2000000 in
set_option maxRecDepth 20000 in
theorem of_zero (v : Value) (p q : Int) (w : World) (p0 : -9223372036854775808 ≤ p) (p1 : p ≤ 9223372036854775807) (q0 : -9223372036854775808 ≤ q) (q1 : q ≤ 9223372036854775807) (ht : Tab w) (hq : q = 0) :
    Calls Tryd.prog 17 #[v, .int .i64 p, .int .i64 q] w fun e w' => e = .returned (.string ⟨(txt (fr p q)).toArray⟩) ∧ Below w.heap.size w w' := by
  have HE : Hid (fr p q = (p : Rat) / ((1 : Int) : Rat)) := by show _ = _; unfold fr; rw [if_pos hq]
  have HQ := hid (int_ne (show (1 : Int) ≠ 0 by omega))
  have D1 := hid (Dg.int p p0 p1)
  have D2 := hid (Dg.int 1 (by omega) (by omega))
  have D0 := hid (Dg.int 0 (by omega) (by omega))
  have HT0 := hid ht
  rw [HE.out]
  subst hq
  clear ht HE
  have e0 : txt ((0 : Int) : Rat) = [48] := by rw [txt_int]; unfold Go.Lib.itoa; rw [if_neg (by omega)]; exact dec_small (by omega)
  have E0 := hid e0
  clear e0
  have HZ : Hid (isZ ((0 : Int) : Rat).num.natAbs = true) := rfl
  go_enter Tryd.func17, Tryd.ntmps17
  go_wp2_with fail
  refine (itoa_any p p0 p1 _ HT0.out).mono ?_
  rintro e w1 ⟨rfl, hb1⟩
  have HB1 := hid hb1
  have HT1 := hid (HT0.out.below hb1)
  clear hb1
  rw [← txt_int]
  go_wp2_with fail
  have C := xDivide_zero ⟨(txt (p : Rat)).toArray⟩ ⟨(txt ((0 : Int) : Rat)).toArray⟩ w1 _ _ (D1.out.ok (by omega) (by omega)) (D0.out.ok (by omega) (by omega)) HT1.out HZ
  rw [E0.out] at C
  refine C.mono ?_
  rintro e w2 ⟨rfl, hb2⟩
  have HB2 : Hid (Below w.heap.size w w2) := HB1.out.trans (hb2.mono HB1.out.size)
  have HT2 := hid (HT1.out.below hb2)
  clear hb2 C
  go_wp2_with fail
  refine (itoa_any p p0 p1 _ HT2.out).mono ?_
  rintro e w3 ⟨rfl, hb3⟩
  have HB3 : Hid (Below w.heap.size w w3) := HB2.out.trans (hb3.mono HB2.out.size)
  have HT3 := hid (HT2.out.below hb3)
  clear hb3
  rw [← txt_int]
  go_wp2_with fail
  refine (itoa_any 1 (by omega) (by omega) _ HT3.out).mono ?_
  rintro e w4 ⟨rfl, hb4⟩
  have HB4 : Hid (Below w.heap.size w w4) := HB3.out.trans (hb4.mono HB3.out.size)
  have HT4 := hid (HT3.out.below hb4)
  clear hb4
  rw [← txt_int 1]
  go_wp2_with fail
  refine (k_div v _ _ 19 19 _ D1.out D2.out (by omega) (by omega) (by omega) (by omega) HT4.out HQ.out).mono ?_
  rintro e w5 ⟨rfl, hb5⟩
  have HB5 : Hid (Below w.heap.size w w5) := HB4.out.trans (hb5.mono HB4.out.size)
  clear hb5
  go_wp2
  go_ret
  exact ⟨rfl, HB5.out⟩

theorem of_any (v : Value) (p q : Int) (w : World) (p0 : -9223372036854775808 ≤ p) (p1 : p ≤ 9223372036854775807) (q0 : -9223372036854775808 ≤ q) (q1 : q ≤ 9223372036854775807) (ht : Tab w) :
    Calls Tryd.prog 17 #[v, .int .i64 p, .int .i64 q] w fun e w' => e = .returned (.string ⟨(txt (fr p q)).toArray⟩) ∧ Below w.heap.size w w' := by
  by_cases h : q = 0
  · exact of_zero v p q w p0 p1 q0 q1 ht h
  · exact of_ok v p q w p0 p1 q0 q1 ht h
end Go.Proofs.YtgiffckjfhgmlaaDoor
