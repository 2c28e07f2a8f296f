/- portionkeep.Field answers true, whatever six ints it is given. (Laid by mkfield.py.) -/
import Derived.Test.YtigokanoflkinaaDoorWKeep
namespace Go.Proofs.YtigokanoflkinaaDoor
set_option linter.unusedSimpArgs false
set_option linter.unusedVariables false
open Go.RowKit Por

theorem q_addsub (x y : Rat) : x + y - y = x := by rw [Rat.sub_eq_add_neg, Rat.add_assoc, Rat.add_neg_cancel, Rat.add_zero]
theorem q_subself (x : Rat) : x - x = 0 := by rw [Rat.sub_eq_add_neg, Rat.add_neg_cancel]
theorem q_muldiv (x y : Rat) (h : y ≠ 0) : x * y / y = x := by rw [Rat.div_def, Rat.mul_assoc, Rat.mul_inv_cancel y h, Rat.mul_one]
theorem q_divmul (x y : Rat) (h : y ≠ 0) : x / y * y = x := by rw [Rat.div_def, Rat.mul_assoc, Rat.inv_mul_cancel y h, Rat.mul_one]
theorem q_div0 (x y : Rat) (hx : x ≠ 0) (hy : y ≠ 0) : x / y ≠ 0 := by
  intro h
  have := q_divmul x y hy
  rw [h, Rat.zero_mul] at this
  exact hx this.symm
theorem txt_zero : txt (0 : Rat) = [48] := by
  have := txt_int 0
  rw [show ((0 : Int) : Rat) = 0 from rfl] at this
  rw [this]; unfold Go.Lib.itoa; rw [if_neg (by omega)]; exact dec_small (by omega)
theorem fr_ne (p q : Int) (hp : p ≠ 0) : fr p q ≠ 0 := by
  unfold fr
  refine q_div0 _ _ (int_ne hp) (int_ne ?_)
  split <;> omega
theorem fr_back (p q : Int) (hq : q ≠ 0) : fr p q * (q : Rat) = (p : Rat) := by
  unfold fr
  rw [if_neg hq]
  exact q_divmul _ _ (int_ne hq)

set_option maxHeartbeats 4000000 in
set_option maxRecDepth 20000 in
theorem field_zz (p q r s t u : Int) (w : World) (p0 : -9223372036854775808 ≤ p) (p1 : p ≤ 9223372036854775807) (q0 : -9223372036854775808 ≤ q) (q1 : q ≤ 9223372036854775807) (r0 : -9223372036854775808 ≤ r) (r1 : r ≤ 9223372036854775807) (s0 : -9223372036854775808 ≤ s) (s1 : s ≤ 9223372036854775807) (t0 : -9223372036854775808 ≤ t) (t1 : t ≤ 9223372036854775807) (u0 : -9223372036854775808 ≤ u) (u1 : u ≤ 9223372036854775807) (ht : Tab w) (hq : q = 0) (hr : r = 0) :
    Calls Tryd.prog 5 #[.int .i64 p, .int .i64 q, .int .i64 r, .int .i64 s, .int .i64 t, .int .i64 u] w fun e w' => e = .returned (.bool true) ∧ Below w.heap.size w w' := by
  have XC0 := hid (bx_new w #[.bool false] 49)
  have HB0 := hid ((Below.refl _ w).alloc (Nat.le_refl _) (.cells #[.bool false] 49))
  have HT0 := hid (ht.below HB0.out)
  obtain ⟨X, HX⟩ : ∃ X, Hid (fr p q = X) := ⟨_, rfl⟩
  obtain ⟨Y, HY⟩ : ∃ Y, Hid (fr r s = Y) := ⟨_, rfl⟩
  obtain ⟨Z, HZ⟩ : ∃ Z, Hid (fr t u = Z) := ⟨_, rfl⟩
  have DX : Hid (Dg X 38) := by have := fr_dg p q p0 p1 q0 q1; rwa [HX.out] at this
  have DY : Hid (Dg Y 38) := by have := fr_dg r s r0 r1 s0 s1; rwa [HY.out] at this
  have DZ : Hid (Dg Z 38) := by have := fr_dg t u t0 t1 u0 u1; rwa [HZ.out] at this
  have DXY := hid (DX.out.add DY.out)
  have MXY := hid (DX.out.mul DY.out)
  have DYZ := hid (DY.out.add DZ.out)
  have MYZ := hid (DY.out.mul DZ.out)
  have MXZ := hid (DX.out.mul DZ.out)
  have E0 := hid txt_zero
  have hq' : (q != 0) = false := by rw [hq]; rfl
  have hr' : (r != 0) = false := by rw [hr]; rfl
  have HQ := hid hq
  have HR := hid hr
  clear ht hq hr
  go_enter Tryd.func5, Tryd.ntmps5
  go_wp2_with fail
  refine (of_any _ p q _ p0 p1 q0 q1 HT0.out).mono ?_
  rintro e w1 ⟨rfl, hb⟩
  have XC1 := hid (XC0.out.keep hb)
  have HB1 : Hid (Below w.heap.size w w1) := HB0.out.trans (hb.mono HB0.out.size)
  have HT1 := hid (HT0.out.below hb)
  clear hb XC0 HB0 HT0
  rw [HX.out]
  go_wp2_with fail
  refine (of_any _ r s _ r0 r1 s0 s1 HT1.out).mono ?_
  rintro e w2 ⟨rfl, hb⟩
  have XC2 := hid (XC1.out.keep hb)
  have HB2 : Hid (Below w.heap.size w w2) := HB1.out.trans (hb.mono HB1.out.size)
  have HT2 := hid (HT1.out.below hb)
  clear hb XC1 HB1 HT1
  rw [HY.out]
  go_wp2_with fail
  refine (of_any _ t u _ t0 t1 u0 u1 HT2.out).mono ?_
  rintro e w3 ⟨rfl, hb⟩
  have XC3 := hid (XC2.out.keep hb)
  have HB3 : Hid (Below w.heap.size w w3) := HB2.out.trans (hb.mono HB2.out.size)
  have HT3 := hid (HT2.out.below hb)
  clear hb XC2 HB2 HT2
  rw [HZ.out]
  go_wp2_with fail
  refine (xCheck_yes ⟨(txt X).toArray⟩ _ X (DX.out.ok (by omega) (by omega))).mono ?_
  rintro e w4 ⟨rfl, hb⟩
  have XC4 := hid (XC3.out.keep hb)
  have HB4 : Hid (Below w.heap.size w w4) := HB3.out.trans (hb.mono HB3.out.size)
  have HT4 := hid (HT3.out.below hb)
  clear hb XC3 HB3 HT3
  go_wp2_with fail
  refine (k_add _ (X) (Y) 38 38 _ DX.out DY.out (by omega) (by omega) (by omega) (by omega) HT4.out).mono ?_
  rintro e w5 ⟨rfl, hb⟩
  have XC5 := hid (XC4.out.keep hb)
  have HB5 : Hid (Below w.heap.size w w5) := HB4.out.trans (hb.mono HB4.out.size)
  have HT5 := hid (HT4.out.below hb)
  clear hb XC4 HB4 HT4
  go_wp2_with fail
  refine (k_add _ (Y) (X) 38 38 _ DY.out DX.out (by omega) (by omega) (by omega) (by omega) HT5.out).mono ?_
  rintro e w6 ⟨rfl, hb⟩
  have XC6 := hid (XC5.out.keep hb)
  have HB6 : Hid (Below w.heap.size w w6) := HB5.out.trans (hb.mono HB5.out.size)
  have HT6 := hid (HT5.out.below hb)
  clear hb XC5 HB5 HT5
  rw [Rat.add_comm Y X]
  go_wp2_with fail
  refine (k_sub _ (X + Y) (Y) 77 38 _ DXY.out DY.out (by omega) (by omega) (by omega) (by omega) HT6.out).mono ?_
  rintro e w7 ⟨rfl, hb⟩
  have XC7 := hid (XC6.out.keep hb)
  have HB7 : Hid (Below w.heap.size w w7) := HB6.out.trans (hb.mono HB6.out.size)
  have HT7 := hid (HT6.out.below hb)
  clear hb XC6 HB6 HT6
  rw [q_addsub]
  go_wp2_with fail
  refine (k_sub _ (X) (X) 38 38 _ DX.out DX.out (by omega) (by omega) (by omega) (by omega) HT7.out).mono ?_
  rintro e w8 ⟨rfl, hb⟩
  have XC8 := hid (XC7.out.keep hb)
  have HB8 : Hid (Below w.heap.size w w8) := HB7.out.trans (hb.mono HB7.out.size)
  have HT8 := hid (HT7.out.below hb)
  clear hb XC7 HB7 HT7
  rw [q_subself, E0.out]
  go_wp2_with fail
  refine (k_mul _ (X) (Y) 38 38 _ DX.out DY.out (by omega) (by omega) (by omega) (by omega) HT8.out).mono ?_
  rintro e w9 ⟨rfl, hb⟩
  have XC9 := hid (XC8.out.keep hb)
  have HB9 : Hid (Below w.heap.size w w9) := HB8.out.trans (hb.mono HB8.out.size)
  have HT9 := hid (HT8.out.below hb)
  clear hb XC8 HB8 HT8
  go_wp2_with fail
  refine (k_mul _ (Y) (X) 38 38 _ DY.out DX.out (by omega) (by omega) (by omega) (by omega) HT9.out).mono ?_
  rintro e w10 ⟨rfl, hb⟩
  have XC10 := hid (XC9.out.keep hb)
  have HB10 : Hid (Below w.heap.size w w10) := HB9.out.trans (hb.mono HB9.out.size)
  have HT10 := hid (HT9.out.below hb)
  clear hb XC9 HB9 HT9
  rw [Rat.mul_comm Y X]
  go_wp2_with fail
  refine (k_add _ (X + Y) (Z) 77 38 _ DXY.out DZ.out (by omega) (by omega) (by omega) (by omega) HT10.out).mono ?_
  rintro e w11 ⟨rfl, hb⟩
  have XC11 := hid (XC10.out.keep hb)
  have HB11 : Hid (Below w.heap.size w w11) := HB10.out.trans (hb.mono HB10.out.size)
  have HT11 := hid (HT10.out.below hb)
  clear hb XC10 HB10 HT10
  go_wp2_with fail
  refine (k_add _ (Y) (Z) 38 38 _ DY.out DZ.out (by omega) (by omega) (by omega) (by omega) HT11.out).mono ?_
  rintro e w12 ⟨rfl, hb⟩
  have XC12 := hid (XC11.out.keep hb)
  have HB12 : Hid (Below w.heap.size w w12) := HB11.out.trans (hb.mono HB11.out.size)
  have HT12 := hid (HT11.out.below hb)
  clear hb XC11 HB11 HT11
  go_wp2_with fail
  refine (k_add _ (X) (Y + Z) 38 77 _ DX.out DYZ.out (by omega) (by omega) (by omega) (by omega) HT12.out).mono ?_
  rintro e w13 ⟨rfl, hb⟩
  have XC13 := hid (XC12.out.keep hb)
  have HB13 : Hid (Below w.heap.size w w13) := HB12.out.trans (hb.mono HB12.out.size)
  have HT13 := hid (HT12.out.below hb)
  clear hb XC12 HB12 HT12
  rw [← Rat.add_assoc]
  go_wp2_with fail
  refine (k_mul _ (X * Y) (Z) 76 38 _ MXY.out DZ.out (by omega) (by omega) (by omega) (by omega) HT13.out).mono ?_
  rintro e w14 ⟨rfl, hb⟩
  have XC14 := hid (XC13.out.keep hb)
  have HB14 : Hid (Below w.heap.size w w14) := HB13.out.trans (hb.mono HB13.out.size)
  have HT14 := hid (HT13.out.below hb)
  clear hb XC13 HB13 HT13
  go_wp2_with fail
  refine (k_mul _ (Y) (Z) 38 38 _ DY.out DZ.out (by omega) (by omega) (by omega) (by omega) HT14.out).mono ?_
  rintro e w15 ⟨rfl, hb⟩
  have XC15 := hid (XC14.out.keep hb)
  have HB15 : Hid (Below w.heap.size w w15) := HB14.out.trans (hb.mono HB14.out.size)
  have HT15 := hid (HT14.out.below hb)
  clear hb XC14 HB14 HT14
  go_wp2_with fail
  refine (k_mul _ (X) (Y * Z) 38 76 _ DX.out MYZ.out (by omega) (by omega) (by omega) (by omega) HT15.out).mono ?_
  rintro e w16 ⟨rfl, hb⟩
  have XC16 := hid (XC15.out.keep hb)
  have HB16 : Hid (Below w.heap.size w w16) := HB15.out.trans (hb.mono HB15.out.size)
  have HT16 := hid (HT15.out.below hb)
  clear hb XC15 HB15 HT15
  rw [← Rat.mul_assoc]
  go_wp2_with fail
  refine (k_mul _ (X + Y) (Z) 77 38 _ DXY.out DZ.out (by omega) (by omega) (by omega) (by omega) HT16.out).mono ?_
  rintro e w17 ⟨rfl, hb⟩
  have XC17 := hid (XC16.out.keep hb)
  have HB17 : Hid (Below w.heap.size w w17) := HB16.out.trans (hb.mono HB16.out.size)
  have HT17 := hid (HT16.out.below hb)
  clear hb XC16 HB16 HT16
  go_wp2_with fail
  refine (k_mul _ (X) (Z) 38 38 _ DX.out DZ.out (by omega) (by omega) (by omega) (by omega) HT17.out).mono ?_
  rintro e w18 ⟨rfl, hb⟩
  have XC18 := hid (XC17.out.keep hb)
  have HB18 : Hid (Below w.heap.size w w18) := HB17.out.trans (hb.mono HB17.out.size)
  have HT18 := hid (HT17.out.below hb)
  clear hb XC17 HB17 HT17
  go_wp2_with fail
  refine (k_mul _ (Y) (Z) 38 38 _ DY.out DZ.out (by omega) (by omega) (by omega) (by omega) HT18.out).mono ?_
  rintro e w19 ⟨rfl, hb⟩
  have XC19 := hid (XC18.out.keep hb)
  have HB19 : Hid (Below w.heap.size w w19) := HB18.out.trans (hb.mono HB18.out.size)
  have HT19 := hid (HT18.out.below hb)
  clear hb XC18 HB18 HT18
  go_wp2_with fail
  refine (k_add _ (X * Z) (Y * Z) 76 76 _ MXZ.out MYZ.out (by omega) (by omega) (by omega) (by omega) HT19.out).mono ?_
  rintro e w20 ⟨rfl, hb⟩
  have XC20 := hid (XC19.out.keep hb)
  have HB20 : Hid (Below w.heap.size w w20) := HB19.out.trans (hb.mono HB19.out.size)
  have HT20 := hid (HT19.out.below hb)
  clear hb XC19 HB19 HT19
  rw [← Rat.add_mul]
  have c0 := XC20.out.cell 0 _ rfl
  go_wp2
  go_ret
  exact ⟨rfl, HB20.out⟩

set_option maxHeartbeats 4000000 in
set_option maxRecDepth 20000 in
theorem field_zn (p q r s t u : Int) (w : World) (p0 : -9223372036854775808 ≤ p) (p1 : p ≤ 9223372036854775807) (q0 : -9223372036854775808 ≤ q) (q1 : q ≤ 9223372036854775807) (r0 : -9223372036854775808 ≤ r) (r1 : r ≤ 9223372036854775807) (s0 : -9223372036854775808 ≤ s) (s1 : s ≤ 9223372036854775807) (t0 : -9223372036854775808 ≤ t) (t1 : t ≤ 9223372036854775807) (u0 : -9223372036854775808 ≤ u) (u1 : u ≤ 9223372036854775807) (ht : Tab w) (hq : q = 0) (hr : r ≠ 0) :
    Calls Tryd.prog 5 #[.int .i64 p, .int .i64 q, .int .i64 r, .int .i64 s, .int .i64 t, .int .i64 u] w fun e w' => e = .returned (.bool true) ∧ Below w.heap.size w w' := by
  have XC0 := hid (bx_new w #[.bool false] 49)
  have HB0 := hid ((Below.refl _ w).alloc (Nat.le_refl _) (.cells #[.bool false] 49))
  have HT0 := hid (ht.below HB0.out)
  obtain ⟨X, HX⟩ : ∃ X, Hid (fr p q = X) := ⟨_, rfl⟩
  obtain ⟨Y, HY⟩ : ∃ Y, Hid (fr r s = Y) := ⟨_, rfl⟩
  obtain ⟨Z, HZ⟩ : ∃ Z, Hid (fr t u = Z) := ⟨_, rfl⟩
  have DX : Hid (Dg X 38) := by have := fr_dg p q p0 p1 q0 q1; rwa [HX.out] at this
  have DY : Hid (Dg Y 38) := by have := fr_dg r s r0 r1 s0 s1; rwa [HY.out] at this
  have DZ : Hid (Dg Z 38) := by have := fr_dg t u t0 t1 u0 u1; rwa [HZ.out] at this
  have DXY := hid (DX.out.add DY.out)
  have MXY := hid (DX.out.mul DY.out)
  have DYZ := hid (DY.out.add DZ.out)
  have MYZ := hid (DY.out.mul DZ.out)
  have MXZ := hid (DX.out.mul DZ.out)
  have E0 := hid txt_zero
  have hq' : (q != 0) = false := by rw [hq]; rfl
  have HYN : Hid (Y ≠ 0) := by show _ ≠ _; rw [← HY.out]; exact fr_ne r s hr
  have hr' : (r != 0) = true := by rw [bne_iff_ne]; exact hr
  have HQ := hid hq
  have HR := hid hr
  clear ht hq hr
  go_enter Tryd.func5, Tryd.ntmps5
  go_wp2_with fail
  refine (of_any _ p q _ p0 p1 q0 q1 HT0.out).mono ?_
  rintro e w1 ⟨rfl, hb⟩
  have XC1 := hid (XC0.out.keep hb)
  have HB1 : Hid (Below w.heap.size w w1) := HB0.out.trans (hb.mono HB0.out.size)
  have HT1 := hid (HT0.out.below hb)
  clear hb XC0 HB0 HT0
  rw [HX.out]
  go_wp2_with fail
  refine (of_any _ r s _ r0 r1 s0 s1 HT1.out).mono ?_
  rintro e w2 ⟨rfl, hb⟩
  have XC2 := hid (XC1.out.keep hb)
  have HB2 : Hid (Below w.heap.size w w2) := HB1.out.trans (hb.mono HB1.out.size)
  have HT2 := hid (HT1.out.below hb)
  clear hb XC1 HB1 HT1
  rw [HY.out]
  go_wp2_with fail
  refine (of_any _ t u _ t0 t1 u0 u1 HT2.out).mono ?_
  rintro e w3 ⟨rfl, hb⟩
  have XC3 := hid (XC2.out.keep hb)
  have HB3 : Hid (Below w.heap.size w w3) := HB2.out.trans (hb.mono HB2.out.size)
  have HT3 := hid (HT2.out.below hb)
  clear hb XC2 HB2 HT2
  rw [HZ.out]
  go_wp2_with fail
  refine (xCheck_yes ⟨(txt X).toArray⟩ _ X (DX.out.ok (by omega) (by omega))).mono ?_
  rintro e w4 ⟨rfl, hb⟩
  have XC4 := hid (XC3.out.keep hb)
  have HB4 : Hid (Below w.heap.size w w4) := HB3.out.trans (hb.mono HB3.out.size)
  have HT4 := hid (HT3.out.below hb)
  clear hb XC3 HB3 HT3
  go_wp2_with fail
  refine (k_add _ (X) (Y) 38 38 _ DX.out DY.out (by omega) (by omega) (by omega) (by omega) HT4.out).mono ?_
  rintro e w5 ⟨rfl, hb⟩
  have XC5 := hid (XC4.out.keep hb)
  have HB5 : Hid (Below w.heap.size w w5) := HB4.out.trans (hb.mono HB4.out.size)
  have HT5 := hid (HT4.out.below hb)
  clear hb XC4 HB4 HT4
  go_wp2_with fail
  refine (k_add _ (Y) (X) 38 38 _ DY.out DX.out (by omega) (by omega) (by omega) (by omega) HT5.out).mono ?_
  rintro e w6 ⟨rfl, hb⟩
  have XC6 := hid (XC5.out.keep hb)
  have HB6 : Hid (Below w.heap.size w w6) := HB5.out.trans (hb.mono HB5.out.size)
  have HT6 := hid (HT5.out.below hb)
  clear hb XC5 HB5 HT5
  rw [Rat.add_comm Y X]
  go_wp2_with fail
  refine (k_sub _ (X + Y) (Y) 77 38 _ DXY.out DY.out (by omega) (by omega) (by omega) (by omega) HT6.out).mono ?_
  rintro e w7 ⟨rfl, hb⟩
  have XC7 := hid (XC6.out.keep hb)
  have HB7 : Hid (Below w.heap.size w w7) := HB6.out.trans (hb.mono HB6.out.size)
  have HT7 := hid (HT6.out.below hb)
  clear hb XC6 HB6 HT6
  rw [q_addsub]
  go_wp2_with fail
  refine (k_sub _ (X) (X) 38 38 _ DX.out DX.out (by omega) (by omega) (by omega) (by omega) HT7.out).mono ?_
  rintro e w8 ⟨rfl, hb⟩
  have XC8 := hid (XC7.out.keep hb)
  have HB8 : Hid (Below w.heap.size w w8) := HB7.out.trans (hb.mono HB7.out.size)
  have HT8 := hid (HT7.out.below hb)
  clear hb XC7 HB7 HT7
  rw [q_subself, E0.out]
  go_wp2_with fail
  refine (k_mul _ (X) (Y) 38 38 _ DX.out DY.out (by omega) (by omega) (by omega) (by omega) HT8.out).mono ?_
  rintro e w9 ⟨rfl, hb⟩
  have XC9 := hid (XC8.out.keep hb)
  have HB9 : Hid (Below w.heap.size w w9) := HB8.out.trans (hb.mono HB8.out.size)
  have HT9 := hid (HT8.out.below hb)
  clear hb XC8 HB8 HT8
  go_wp2_with fail
  refine (k_mul _ (Y) (X) 38 38 _ DY.out DX.out (by omega) (by omega) (by omega) (by omega) HT9.out).mono ?_
  rintro e w10 ⟨rfl, hb⟩
  have XC10 := hid (XC9.out.keep hb)
  have HB10 : Hid (Below w.heap.size w w10) := HB9.out.trans (hb.mono HB9.out.size)
  have HT10 := hid (HT9.out.below hb)
  clear hb XC9 HB9 HT9
  rw [Rat.mul_comm Y X]
  go_wp2_with fail
  refine (k_div _ (X * Y) (Y) 76 38 _ MXY.out DY.out (by omega) (by omega) (by omega) (by omega) HT10.out HYN.out).mono ?_
  rintro e w11 ⟨rfl, hb⟩
  have XC11 := hid (XC10.out.keep hb)
  have HB11 : Hid (Below w.heap.size w w11) := HB10.out.trans (hb.mono HB10.out.size)
  have HT11 := hid (HT10.out.below hb)
  clear hb XC10 HB10 HT10
  rw [q_muldiv _ _ HYN.out]
  go_wp2_with fail
  refine (k_add _ (X + Y) (Z) 77 38 _ DXY.out DZ.out (by omega) (by omega) (by omega) (by omega) HT11.out).mono ?_
  rintro e w12 ⟨rfl, hb⟩
  have XC12 := hid (XC11.out.keep hb)
  have HB12 : Hid (Below w.heap.size w w12) := HB11.out.trans (hb.mono HB11.out.size)
  have HT12 := hid (HT11.out.below hb)
  clear hb XC11 HB11 HT11
  go_wp2_with fail
  refine (k_add _ (Y) (Z) 38 38 _ DY.out DZ.out (by omega) (by omega) (by omega) (by omega) HT12.out).mono ?_
  rintro e w13 ⟨rfl, hb⟩
  have XC13 := hid (XC12.out.keep hb)
  have HB13 : Hid (Below w.heap.size w w13) := HB12.out.trans (hb.mono HB12.out.size)
  have HT13 := hid (HT12.out.below hb)
  clear hb XC12 HB12 HT12
  go_wp2_with fail
  refine (k_add _ (X) (Y + Z) 38 77 _ DX.out DYZ.out (by omega) (by omega) (by omega) (by omega) HT13.out).mono ?_
  rintro e w14 ⟨rfl, hb⟩
  have XC14 := hid (XC13.out.keep hb)
  have HB14 : Hid (Below w.heap.size w w14) := HB13.out.trans (hb.mono HB13.out.size)
  have HT14 := hid (HT13.out.below hb)
  clear hb XC13 HB13 HT13
  rw [← Rat.add_assoc]
  go_wp2_with fail
  refine (k_mul _ (X * Y) (Z) 76 38 _ MXY.out DZ.out (by omega) (by omega) (by omega) (by omega) HT14.out).mono ?_
  rintro e w15 ⟨rfl, hb⟩
  have XC15 := hid (XC14.out.keep hb)
  have HB15 : Hid (Below w.heap.size w w15) := HB14.out.trans (hb.mono HB14.out.size)
  have HT15 := hid (HT14.out.below hb)
  clear hb XC14 HB14 HT14
  go_wp2_with fail
  refine (k_mul _ (Y) (Z) 38 38 _ DY.out DZ.out (by omega) (by omega) (by omega) (by omega) HT15.out).mono ?_
  rintro e w16 ⟨rfl, hb⟩
  have XC16 := hid (XC15.out.keep hb)
  have HB16 : Hid (Below w.heap.size w w16) := HB15.out.trans (hb.mono HB15.out.size)
  have HT16 := hid (HT15.out.below hb)
  clear hb XC15 HB15 HT15
  go_wp2_with fail
  refine (k_mul _ (X) (Y * Z) 38 76 _ DX.out MYZ.out (by omega) (by omega) (by omega) (by omega) HT16.out).mono ?_
  rintro e w17 ⟨rfl, hb⟩
  have XC17 := hid (XC16.out.keep hb)
  have HB17 : Hid (Below w.heap.size w w17) := HB16.out.trans (hb.mono HB16.out.size)
  have HT17 := hid (HT16.out.below hb)
  clear hb XC16 HB16 HT16
  rw [← Rat.mul_assoc]
  go_wp2_with fail
  refine (k_mul _ (X + Y) (Z) 77 38 _ DXY.out DZ.out (by omega) (by omega) (by omega) (by omega) HT17.out).mono ?_
  rintro e w18 ⟨rfl, hb⟩
  have XC18 := hid (XC17.out.keep hb)
  have HB18 : Hid (Below w.heap.size w w18) := HB17.out.trans (hb.mono HB17.out.size)
  have HT18 := hid (HT17.out.below hb)
  clear hb XC17 HB17 HT17
  go_wp2_with fail
  refine (k_mul _ (X) (Z) 38 38 _ DX.out DZ.out (by omega) (by omega) (by omega) (by omega) HT18.out).mono ?_
  rintro e w19 ⟨rfl, hb⟩
  have XC19 := hid (XC18.out.keep hb)
  have HB19 : Hid (Below w.heap.size w w19) := HB18.out.trans (hb.mono HB18.out.size)
  have HT19 := hid (HT18.out.below hb)
  clear hb XC18 HB18 HT18
  go_wp2_with fail
  refine (k_mul _ (Y) (Z) 38 38 _ DY.out DZ.out (by omega) (by omega) (by omega) (by omega) HT19.out).mono ?_
  rintro e w20 ⟨rfl, hb⟩
  have XC20 := hid (XC19.out.keep hb)
  have HB20 : Hid (Below w.heap.size w w20) := HB19.out.trans (hb.mono HB19.out.size)
  have HT20 := hid (HT19.out.below hb)
  clear hb XC19 HB19 HT19
  go_wp2_with fail
  refine (k_add _ (X * Z) (Y * Z) 76 76 _ MXZ.out MYZ.out (by omega) (by omega) (by omega) (by omega) HT20.out).mono ?_
  rintro e w21 ⟨rfl, hb⟩
  have XC21 := hid (XC20.out.keep hb)
  have HB21 : Hid (Below w.heap.size w w21) := HB20.out.trans (hb.mono HB20.out.size)
  have HT21 := hid (HT20.out.below hb)
  clear hb XC20 HB20 HT20
  rw [← Rat.add_mul]
  have c0 := XC21.out.cell 0 _ rfl
  go_wp2
  go_ret
  exact ⟨rfl, HB21.out⟩

set_option maxHeartbeats 4000000 in
set_option maxRecDepth 20000 in
theorem field_nz (p q r s t u : Int) (w : World) (p0 : -9223372036854775808 ≤ p) (p1 : p ≤ 9223372036854775807) (q0 : -9223372036854775808 ≤ q) (q1 : q ≤ 9223372036854775807) (r0 : -9223372036854775808 ≤ r) (r1 : r ≤ 9223372036854775807) (s0 : -9223372036854775808 ≤ s) (s1 : s ≤ 9223372036854775807) (t0 : -9223372036854775808 ≤ t) (t1 : t ≤ 9223372036854775807) (u0 : -9223372036854775808 ≤ u) (u1 : u ≤ 9223372036854775807) (ht : Tab w) (hq : q ≠ 0) (hr : r = 0) :
    Calls Tryd.prog 5 #[.int .i64 p, .int .i64 q, .int .i64 r, .int .i64 s, .int .i64 t, .int .i64 u] w fun e w' => e = .returned (.bool true) ∧ Below w.heap.size w w' := by
  have XC0 := hid (bx_new w #[.bool false] 49)
  have HB0 := hid ((Below.refl _ w).alloc (Nat.le_refl _) (.cells #[.bool false] 49))
  have HT0 := hid (ht.below HB0.out)
  obtain ⟨X, HX⟩ : ∃ X, Hid (fr p q = X) := ⟨_, rfl⟩
  obtain ⟨Y, HY⟩ : ∃ Y, Hid (fr r s = Y) := ⟨_, rfl⟩
  obtain ⟨Z, HZ⟩ : ∃ Z, Hid (fr t u = Z) := ⟨_, rfl⟩
  have DX : Hid (Dg X 38) := by have := fr_dg p q p0 p1 q0 q1; rwa [HX.out] at this
  have DY : Hid (Dg Y 38) := by have := fr_dg r s r0 r1 s0 s1; rwa [HY.out] at this
  have DZ : Hid (Dg Z 38) := by have := fr_dg t u t0 t1 u0 u1; rwa [HZ.out] at this
  have DXY := hid (DX.out.add DY.out)
  have MXY := hid (DX.out.mul DY.out)
  have DYZ := hid (DY.out.add DZ.out)
  have MYZ := hid (DY.out.mul DZ.out)
  have MXZ := hid (DX.out.mul DZ.out)
  have E0 := hid txt_zero
  have DQ := hid (Dg.int q q0 q1)
  have HBK : Hid (X * (q : Rat) = (p : Rat)) := by show _ = _; rw [← HX.out]; exact fr_back p q hq
  have hq' : (q != 0) = true := by rw [bne_iff_ne]; exact hq
  have hr' : (r != 0) = false := by rw [hr]; rfl
  have HQ := hid hq
  have HR := hid hr
  clear ht hq hr
  go_enter Tryd.func5, Tryd.ntmps5
  go_wp2_with fail
  refine (of_any _ p q _ p0 p1 q0 q1 HT0.out).mono ?_
  rintro e w1 ⟨rfl, hb⟩
  have XC1 := hid (XC0.out.keep hb)
  have HB1 : Hid (Below w.heap.size w w1) := HB0.out.trans (hb.mono HB0.out.size)
  have HT1 := hid (HT0.out.below hb)
  clear hb XC0 HB0 HT0
  rw [HX.out]
  go_wp2_with fail
  refine (of_any _ r s _ r0 r1 s0 s1 HT1.out).mono ?_
  rintro e w2 ⟨rfl, hb⟩
  have XC2 := hid (XC1.out.keep hb)
  have HB2 : Hid (Below w.heap.size w w2) := HB1.out.trans (hb.mono HB1.out.size)
  have HT2 := hid (HT1.out.below hb)
  clear hb XC1 HB1 HT1
  rw [HY.out]
  go_wp2_with fail
  refine (of_any _ t u _ t0 t1 u0 u1 HT2.out).mono ?_
  rintro e w3 ⟨rfl, hb⟩
  have XC3 := hid (XC2.out.keep hb)
  have HB3 : Hid (Below w.heap.size w w3) := HB2.out.trans (hb.mono HB2.out.size)
  have HT3 := hid (HT2.out.below hb)
  clear hb XC2 HB2 HT2
  rw [HZ.out]
  go_wp2_with fail
  refine (itoa_any q q0 q1 _ HT3.out).mono ?_
  rintro e w4 ⟨rfl, hb⟩
  have XC4 := hid (XC3.out.keep hb)
  have HB4 : Hid (Below w.heap.size w w4) := HB3.out.trans (hb.mono HB3.out.size)
  have HT4 := hid (HT3.out.below hb)
  clear hb XC3 HB3 HT3
  rw [← txt_int]
  go_wp2_with fail
  refine (k_mul _ (X) ((q : Rat)) 38 19 _ DX.out DQ.out (by omega) (by omega) (by omega) (by omega) HT4.out).mono ?_
  rintro e w5 ⟨rfl, hb⟩
  have XC5 := hid (XC4.out.keep hb)
  have HB5 : Hid (Below w.heap.size w w5) := HB4.out.trans (hb.mono HB4.out.size)
  have HT5 := hid (HT4.out.below hb)
  clear hb XC4 HB4 HT4
  rw [HBK.out]
  go_wp2_with fail
  refine (itoa_any p p0 p1 _ HT5.out).mono ?_
  rintro e w6 ⟨rfl, hb⟩
  have XC6 := hid (XC5.out.keep hb)
  have HB6 : Hid (Below w.heap.size w w6) := HB5.out.trans (hb.mono HB5.out.size)
  have HT6 := hid (HT5.out.below hb)
  clear hb XC5 HB5 HT5
  rw [← txt_int]
  go_wp2_with fail
  refine (xCheck_yes ⟨(txt X).toArray⟩ _ X (DX.out.ok (by omega) (by omega))).mono ?_
  rintro e w7 ⟨rfl, hb⟩
  have XC7 := hid (XC6.out.keep hb)
  have HB7 : Hid (Below w.heap.size w w7) := HB6.out.trans (hb.mono HB6.out.size)
  have HT7 := hid (HT6.out.below hb)
  clear hb XC6 HB6 HT6
  go_wp2_with fail
  refine (k_add _ (X) (Y) 38 38 _ DX.out DY.out (by omega) (by omega) (by omega) (by omega) HT7.out).mono ?_
  rintro e w8 ⟨rfl, hb⟩
  have XC8 := hid (XC7.out.keep hb)
  have HB8 : Hid (Below w.heap.size w w8) := HB7.out.trans (hb.mono HB7.out.size)
  have HT8 := hid (HT7.out.below hb)
  clear hb XC7 HB7 HT7
  go_wp2_with fail
  refine (k_add _ (Y) (X) 38 38 _ DY.out DX.out (by omega) (by omega) (by omega) (by omega) HT8.out).mono ?_
  rintro e w9 ⟨rfl, hb⟩
  have XC9 := hid (XC8.out.keep hb)
  have HB9 : Hid (Below w.heap.size w w9) := HB8.out.trans (hb.mono HB8.out.size)
  have HT9 := hid (HT8.out.below hb)
  clear hb XC8 HB8 HT8
  rw [Rat.add_comm Y X]
  go_wp2_with fail
  refine (k_sub _ (X + Y) (Y) 77 38 _ DXY.out DY.out (by omega) (by omega) (by omega) (by omega) HT9.out).mono ?_
  rintro e w10 ⟨rfl, hb⟩
  have XC10 := hid (XC9.out.keep hb)
  have HB10 : Hid (Below w.heap.size w w10) := HB9.out.trans (hb.mono HB9.out.size)
  have HT10 := hid (HT9.out.below hb)
  clear hb XC9 HB9 HT9
  rw [q_addsub]
  go_wp2_with fail
  refine (k_sub _ (X) (X) 38 38 _ DX.out DX.out (by omega) (by omega) (by omega) (by omega) HT10.out).mono ?_
  rintro e w11 ⟨rfl, hb⟩
  have XC11 := hid (XC10.out.keep hb)
  have HB11 : Hid (Below w.heap.size w w11) := HB10.out.trans (hb.mono HB10.out.size)
  have HT11 := hid (HT10.out.below hb)
  clear hb XC10 HB10 HT10
  rw [q_subself, E0.out]
  go_wp2_with fail
  refine (k_mul _ (X) (Y) 38 38 _ DX.out DY.out (by omega) (by omega) (by omega) (by omega) HT11.out).mono ?_
  rintro e w12 ⟨rfl, hb⟩
  have XC12 := hid (XC11.out.keep hb)
  have HB12 : Hid (Below w.heap.size w w12) := HB11.out.trans (hb.mono HB11.out.size)
  have HT12 := hid (HT11.out.below hb)
  clear hb XC11 HB11 HT11
  go_wp2_with fail
  refine (k_mul _ (Y) (X) 38 38 _ DY.out DX.out (by omega) (by omega) (by omega) (by omega) HT12.out).mono ?_
  rintro e w13 ⟨rfl, hb⟩
  have XC13 := hid (XC12.out.keep hb)
  have HB13 : Hid (Below w.heap.size w w13) := HB12.out.trans (hb.mono HB12.out.size)
  have HT13 := hid (HT12.out.below hb)
  clear hb XC12 HB12 HT12
  rw [Rat.mul_comm Y X]
  go_wp2_with fail
  refine (k_add _ (X + Y) (Z) 77 38 _ DXY.out DZ.out (by omega) (by omega) (by omega) (by omega) HT13.out).mono ?_
  rintro e w14 ⟨rfl, hb⟩
  have XC14 := hid (XC13.out.keep hb)
  have HB14 : Hid (Below w.heap.size w w14) := HB13.out.trans (hb.mono HB13.out.size)
  have HT14 := hid (HT13.out.below hb)
  clear hb XC13 HB13 HT13
  go_wp2_with fail
  refine (k_add _ (Y) (Z) 38 38 _ DY.out DZ.out (by omega) (by omega) (by omega) (by omega) HT14.out).mono ?_
  rintro e w15 ⟨rfl, hb⟩
  have XC15 := hid (XC14.out.keep hb)
  have HB15 : Hid (Below w.heap.size w w15) := HB14.out.trans (hb.mono HB14.out.size)
  have HT15 := hid (HT14.out.below hb)
  clear hb XC14 HB14 HT14
  go_wp2_with fail
  refine (k_add _ (X) (Y + Z) 38 77 _ DX.out DYZ.out (by omega) (by omega) (by omega) (by omega) HT15.out).mono ?_
  rintro e w16 ⟨rfl, hb⟩
  have XC16 := hid (XC15.out.keep hb)
  have HB16 : Hid (Below w.heap.size w w16) := HB15.out.trans (hb.mono HB15.out.size)
  have HT16 := hid (HT15.out.below hb)
  clear hb XC15 HB15 HT15
  rw [← Rat.add_assoc]
  go_wp2_with fail
  refine (k_mul _ (X * Y) (Z) 76 38 _ MXY.out DZ.out (by omega) (by omega) (by omega) (by omega) HT16.out).mono ?_
  rintro e w17 ⟨rfl, hb⟩
  have XC17 := hid (XC16.out.keep hb)
  have HB17 : Hid (Below w.heap.size w w17) := HB16.out.trans (hb.mono HB16.out.size)
  have HT17 := hid (HT16.out.below hb)
  clear hb XC16 HB16 HT16
  go_wp2_with fail
  refine (k_mul _ (Y) (Z) 38 38 _ DY.out DZ.out (by omega) (by omega) (by omega) (by omega) HT17.out).mono ?_
  rintro e w18 ⟨rfl, hb⟩
  have XC18 := hid (XC17.out.keep hb)
  have HB18 : Hid (Below w.heap.size w w18) := HB17.out.trans (hb.mono HB17.out.size)
  have HT18 := hid (HT17.out.below hb)
  clear hb XC17 HB17 HT17
  go_wp2_with fail
  refine (k_mul _ (X) (Y * Z) 38 76 _ DX.out MYZ.out (by omega) (by omega) (by omega) (by omega) HT18.out).mono ?_
  rintro e w19 ⟨rfl, hb⟩
  have XC19 := hid (XC18.out.keep hb)
  have HB19 : Hid (Below w.heap.size w w19) := HB18.out.trans (hb.mono HB18.out.size)
  have HT19 := hid (HT18.out.below hb)
  clear hb XC18 HB18 HT18
  rw [← Rat.mul_assoc]
  go_wp2_with fail
  refine (k_mul _ (X + Y) (Z) 77 38 _ DXY.out DZ.out (by omega) (by omega) (by omega) (by omega) HT19.out).mono ?_
  rintro e w20 ⟨rfl, hb⟩
  have XC20 := hid (XC19.out.keep hb)
  have HB20 : Hid (Below w.heap.size w w20) := HB19.out.trans (hb.mono HB19.out.size)
  have HT20 := hid (HT19.out.below hb)
  clear hb XC19 HB19 HT19
  go_wp2_with fail
  refine (k_mul _ (X) (Z) 38 38 _ DX.out DZ.out (by omega) (by omega) (by omega) (by omega) HT20.out).mono ?_
  rintro e w21 ⟨rfl, hb⟩
  have XC21 := hid (XC20.out.keep hb)
  have HB21 : Hid (Below w.heap.size w w21) := HB20.out.trans (hb.mono HB20.out.size)
  have HT21 := hid (HT20.out.below hb)
  clear hb XC20 HB20 HT20
  go_wp2_with fail
  refine (k_mul _ (Y) (Z) 38 38 _ DY.out DZ.out (by omega) (by omega) (by omega) (by omega) HT21.out).mono ?_
  rintro e w22 ⟨rfl, hb⟩
  have XC22 := hid (XC21.out.keep hb)
  have HB22 : Hid (Below w.heap.size w w22) := HB21.out.trans (hb.mono HB21.out.size)
  have HT22 := hid (HT21.out.below hb)
  clear hb XC21 HB21 HT21
  go_wp2_with fail
  refine (k_add _ (X * Z) (Y * Z) 76 76 _ MXZ.out MYZ.out (by omega) (by omega) (by omega) (by omega) HT22.out).mono ?_
  rintro e w23 ⟨rfl, hb⟩
  have XC23 := hid (XC22.out.keep hb)
  have HB23 : Hid (Below w.heap.size w w23) := HB22.out.trans (hb.mono HB22.out.size)
  have HT23 := hid (HT22.out.below hb)
  clear hb XC22 HB22 HT22
  rw [← Rat.add_mul]
  have c0 := XC23.out.cell 0 _ rfl
  go_wp2
  go_ret
  exact ⟨rfl, HB23.out⟩

set_option maxHeartbeats 4000000 in
set_option maxRecDepth 20000 in
theorem field_nn (p q r s t u : Int) (w : World) (p0 : -9223372036854775808 ≤ p) (p1 : p ≤ 9223372036854775807) (q0 : -9223372036854775808 ≤ q) (q1 : q ≤ 9223372036854775807) (r0 : -9223372036854775808 ≤ r) (r1 : r ≤ 9223372036854775807) (s0 : -9223372036854775808 ≤ s) (s1 : s ≤ 9223372036854775807) (t0 : -9223372036854775808 ≤ t) (t1 : t ≤ 9223372036854775807) (u0 : -9223372036854775808 ≤ u) (u1 : u ≤ 9223372036854775807) (ht : Tab w) (hq : q ≠ 0) (hr : r ≠ 0) :
    Calls Tryd.prog 5 #[.int .i64 p, .int .i64 q, .int .i64 r, .int .i64 s, .int .i64 t, .int .i64 u] w fun e w' => e = .returned (.bool true) ∧ Below w.heap.size w w' := by
  have XC0 := hid (bx_new w #[.bool false] 49)
  have HB0 := hid ((Below.refl _ w).alloc (Nat.le_refl _) (.cells #[.bool false] 49))
  have HT0 := hid (ht.below HB0.out)
  obtain ⟨X, HX⟩ : ∃ X, Hid (fr p q = X) := ⟨_, rfl⟩
  obtain ⟨Y, HY⟩ : ∃ Y, Hid (fr r s = Y) := ⟨_, rfl⟩
  obtain ⟨Z, HZ⟩ : ∃ Z, Hid (fr t u = Z) := ⟨_, rfl⟩
  have DX : Hid (Dg X 38) := by have := fr_dg p q p0 p1 q0 q1; rwa [HX.out] at this
  have DY : Hid (Dg Y 38) := by have := fr_dg r s r0 r1 s0 s1; rwa [HY.out] at this
  have DZ : Hid (Dg Z 38) := by have := fr_dg t u t0 t1 u0 u1; rwa [HZ.out] at this
  have DXY := hid (DX.out.add DY.out)
  have MXY := hid (DX.out.mul DY.out)
  have DYZ := hid (DY.out.add DZ.out)
  have MYZ := hid (DY.out.mul DZ.out)
  have MXZ := hid (DX.out.mul DZ.out)
  have E0 := hid txt_zero
  have DQ := hid (Dg.int q q0 q1)
  have HBK : Hid (X * (q : Rat) = (p : Rat)) := by show _ = _; rw [← HX.out]; exact fr_back p q hq
  have hq' : (q != 0) = true := by rw [bne_iff_ne]; exact hq
  have HYN : Hid (Y ≠ 0) := by show _ ≠ _; rw [← HY.out]; exact fr_ne r s hr
  have hr' : (r != 0) = true := by rw [bne_iff_ne]; exact hr
  have HQ := hid hq
  have HR := hid hr
  clear ht hq hr
  go_enter Tryd.func5, Tryd.ntmps5
  go_wp2_with fail
  refine (of_any _ p q _ p0 p1 q0 q1 HT0.out).mono ?_
  rintro e w1 ⟨rfl, hb⟩
  have XC1 := hid (XC0.out.keep hb)
  have HB1 : Hid (Below w.heap.size w w1) := HB0.out.trans (hb.mono HB0.out.size)
  have HT1 := hid (HT0.out.below hb)
  clear hb XC0 HB0 HT0
  rw [HX.out]
  go_wp2_with fail
  refine (of_any _ r s _ r0 r1 s0 s1 HT1.out).mono ?_
  rintro e w2 ⟨rfl, hb⟩
  have XC2 := hid (XC1.out.keep hb)
  have HB2 : Hid (Below w.heap.size w w2) := HB1.out.trans (hb.mono HB1.out.size)
  have HT2 := hid (HT1.out.below hb)
  clear hb XC1 HB1 HT1
  rw [HY.out]
  go_wp2_with fail
  refine (of_any _ t u _ t0 t1 u0 u1 HT2.out).mono ?_
  rintro e w3 ⟨rfl, hb⟩
  have XC3 := hid (XC2.out.keep hb)
  have HB3 : Hid (Below w.heap.size w w3) := HB2.out.trans (hb.mono HB2.out.size)
  have HT3 := hid (HT2.out.below hb)
  clear hb XC2 HB2 HT2
  rw [HZ.out]
  go_wp2_with fail
  refine (itoa_any q q0 q1 _ HT3.out).mono ?_
  rintro e w4 ⟨rfl, hb⟩
  have XC4 := hid (XC3.out.keep hb)
  have HB4 : Hid (Below w.heap.size w w4) := HB3.out.trans (hb.mono HB3.out.size)
  have HT4 := hid (HT3.out.below hb)
  clear hb XC3 HB3 HT3
  rw [← txt_int]
  go_wp2_with fail
  refine (k_mul _ (X) ((q : Rat)) 38 19 _ DX.out DQ.out (by omega) (by omega) (by omega) (by omega) HT4.out).mono ?_
  rintro e w5 ⟨rfl, hb⟩
  have XC5 := hid (XC4.out.keep hb)
  have HB5 : Hid (Below w.heap.size w w5) := HB4.out.trans (hb.mono HB4.out.size)
  have HT5 := hid (HT4.out.below hb)
  clear hb XC4 HB4 HT4
  rw [HBK.out]
  go_wp2_with fail
  refine (itoa_any p p0 p1 _ HT5.out).mono ?_
  rintro e w6 ⟨rfl, hb⟩
  have XC6 := hid (XC5.out.keep hb)
  have HB6 : Hid (Below w.heap.size w w6) := HB5.out.trans (hb.mono HB5.out.size)
  have HT6 := hid (HT5.out.below hb)
  clear hb XC5 HB5 HT5
  rw [← txt_int]
  go_wp2_with fail
  refine (xCheck_yes ⟨(txt X).toArray⟩ _ X (DX.out.ok (by omega) (by omega))).mono ?_
  rintro e w7 ⟨rfl, hb⟩
  have XC7 := hid (XC6.out.keep hb)
  have HB7 : Hid (Below w.heap.size w w7) := HB6.out.trans (hb.mono HB6.out.size)
  have HT7 := hid (HT6.out.below hb)
  clear hb XC6 HB6 HT6
  go_wp2_with fail
  refine (k_add _ (X) (Y) 38 38 _ DX.out DY.out (by omega) (by omega) (by omega) (by omega) HT7.out).mono ?_
  rintro e w8 ⟨rfl, hb⟩
  have XC8 := hid (XC7.out.keep hb)
  have HB8 : Hid (Below w.heap.size w w8) := HB7.out.trans (hb.mono HB7.out.size)
  have HT8 := hid (HT7.out.below hb)
  clear hb XC7 HB7 HT7
  go_wp2_with fail
  refine (k_add _ (Y) (X) 38 38 _ DY.out DX.out (by omega) (by omega) (by omega) (by omega) HT8.out).mono ?_
  rintro e w9 ⟨rfl, hb⟩
  have XC9 := hid (XC8.out.keep hb)
  have HB9 : Hid (Below w.heap.size w w9) := HB8.out.trans (hb.mono HB8.out.size)
  have HT9 := hid (HT8.out.below hb)
  clear hb XC8 HB8 HT8
  rw [Rat.add_comm Y X]
  go_wp2_with fail
  refine (k_sub _ (X + Y) (Y) 77 38 _ DXY.out DY.out (by omega) (by omega) (by omega) (by omega) HT9.out).mono ?_
  rintro e w10 ⟨rfl, hb⟩
  have XC10 := hid (XC9.out.keep hb)
  have HB10 : Hid (Below w.heap.size w w10) := HB9.out.trans (hb.mono HB9.out.size)
  have HT10 := hid (HT9.out.below hb)
  clear hb XC9 HB9 HT9
  rw [q_addsub]
  go_wp2_with fail
  refine (k_sub _ (X) (X) 38 38 _ DX.out DX.out (by omega) (by omega) (by omega) (by omega) HT10.out).mono ?_
  rintro e w11 ⟨rfl, hb⟩
  have XC11 := hid (XC10.out.keep hb)
  have HB11 : Hid (Below w.heap.size w w11) := HB10.out.trans (hb.mono HB10.out.size)
  have HT11 := hid (HT10.out.below hb)
  clear hb XC10 HB10 HT10
  rw [q_subself, E0.out]
  go_wp2_with fail
  refine (k_mul _ (X) (Y) 38 38 _ DX.out DY.out (by omega) (by omega) (by omega) (by omega) HT11.out).mono ?_
  rintro e w12 ⟨rfl, hb⟩
  have XC12 := hid (XC11.out.keep hb)
  have HB12 : Hid (Below w.heap.size w w12) := HB11.out.trans (hb.mono HB11.out.size)
  have HT12 := hid (HT11.out.below hb)
  clear hb XC11 HB11 HT11
  go_wp2_with fail
  refine (k_mul _ (Y) (X) 38 38 _ DY.out DX.out (by omega) (by omega) (by omega) (by omega) HT12.out).mono ?_
  rintro e w13 ⟨rfl, hb⟩
  have XC13 := hid (XC12.out.keep hb)
  have HB13 : Hid (Below w.heap.size w w13) := HB12.out.trans (hb.mono HB12.out.size)
  have HT13 := hid (HT12.out.below hb)
  clear hb XC12 HB12 HT12
  rw [Rat.mul_comm Y X]
  go_wp2_with fail
  refine (k_div _ (X * Y) (Y) 76 38 _ MXY.out DY.out (by omega) (by omega) (by omega) (by omega) HT13.out HYN.out).mono ?_
  rintro e w14 ⟨rfl, hb⟩
  have XC14 := hid (XC13.out.keep hb)
  have HB14 : Hid (Below w.heap.size w w14) := HB13.out.trans (hb.mono HB13.out.size)
  have HT14 := hid (HT13.out.below hb)
  clear hb XC13 HB13 HT13
  rw [q_muldiv _ _ HYN.out]
  go_wp2_with fail
  refine (k_add _ (X + Y) (Z) 77 38 _ DXY.out DZ.out (by omega) (by omega) (by omega) (by omega) HT14.out).mono ?_
  rintro e w15 ⟨rfl, hb⟩
  have XC15 := hid (XC14.out.keep hb)
  have HB15 : Hid (Below w.heap.size w w15) := HB14.out.trans (hb.mono HB14.out.size)
  have HT15 := hid (HT14.out.below hb)
  clear hb XC14 HB14 HT14
  go_wp2_with fail
  refine (k_add _ (Y) (Z) 38 38 _ DY.out DZ.out (by omega) (by omega) (by omega) (by omega) HT15.out).mono ?_
  rintro e w16 ⟨rfl, hb⟩
  have XC16 := hid (XC15.out.keep hb)
  have HB16 : Hid (Below w.heap.size w w16) := HB15.out.trans (hb.mono HB15.out.size)
  have HT16 := hid (HT15.out.below hb)
  clear hb XC15 HB15 HT15
  go_wp2_with fail
  refine (k_add _ (X) (Y + Z) 38 77 _ DX.out DYZ.out (by omega) (by omega) (by omega) (by omega) HT16.out).mono ?_
  rintro e w17 ⟨rfl, hb⟩
  have XC17 := hid (XC16.out.keep hb)
  have HB17 : Hid (Below w.heap.size w w17) := HB16.out.trans (hb.mono HB16.out.size)
  have HT17 := hid (HT16.out.below hb)
  clear hb XC16 HB16 HT16
  rw [← Rat.add_assoc]
  go_wp2_with fail
  refine (k_mul _ (X * Y) (Z) 76 38 _ MXY.out DZ.out (by omega) (by omega) (by omega) (by omega) HT17.out).mono ?_
  rintro e w18 ⟨rfl, hb⟩
  have XC18 := hid (XC17.out.keep hb)
  have HB18 : Hid (Below w.heap.size w w18) := HB17.out.trans (hb.mono HB17.out.size)
  have HT18 := hid (HT17.out.below hb)
  clear hb XC17 HB17 HT17
  go_wp2_with fail
  refine (k_mul _ (Y) (Z) 38 38 _ DY.out DZ.out (by omega) (by omega) (by omega) (by omega) HT18.out).mono ?_
  rintro e w19 ⟨rfl, hb⟩
  have XC19 := hid (XC18.out.keep hb)
  have HB19 : Hid (Below w.heap.size w w19) := HB18.out.trans (hb.mono HB18.out.size)
  have HT19 := hid (HT18.out.below hb)
  clear hb XC18 HB18 HT18
  go_wp2_with fail
  refine (k_mul _ (X) (Y * Z) 38 76 _ DX.out MYZ.out (by omega) (by omega) (by omega) (by omega) HT19.out).mono ?_
  rintro e w20 ⟨rfl, hb⟩
  have XC20 := hid (XC19.out.keep hb)
  have HB20 : Hid (Below w.heap.size w w20) := HB19.out.trans (hb.mono HB19.out.size)
  have HT20 := hid (HT19.out.below hb)
  clear hb XC19 HB19 HT19
  rw [← Rat.mul_assoc]
  go_wp2_with fail
  refine (k_mul _ (X + Y) (Z) 77 38 _ DXY.out DZ.out (by omega) (by omega) (by omega) (by omega) HT20.out).mono ?_
  rintro e w21 ⟨rfl, hb⟩
  have XC21 := hid (XC20.out.keep hb)
  have HB21 : Hid (Below w.heap.size w w21) := HB20.out.trans (hb.mono HB20.out.size)
  have HT21 := hid (HT20.out.below hb)
  clear hb XC20 HB20 HT20
  go_wp2_with fail
  refine (k_mul _ (X) (Z) 38 38 _ DX.out DZ.out (by omega) (by omega) (by omega) (by omega) HT21.out).mono ?_
  rintro e w22 ⟨rfl, hb⟩
  have XC22 := hid (XC21.out.keep hb)
  have HB22 : Hid (Below w.heap.size w w22) := HB21.out.trans (hb.mono HB21.out.size)
  have HT22 := hid (HT21.out.below hb)
  clear hb XC21 HB21 HT21
  go_wp2_with fail
  refine (k_mul _ (Y) (Z) 38 38 _ DY.out DZ.out (by omega) (by omega) (by omega) (by omega) HT22.out).mono ?_
  rintro e w23 ⟨rfl, hb⟩
  have XC23 := hid (XC22.out.keep hb)
  have HB23 : Hid (Below w.heap.size w w23) := HB22.out.trans (hb.mono HB22.out.size)
  have HT23 := hid (HT22.out.below hb)
  clear hb XC22 HB22 HT22
  go_wp2_with fail
  refine (k_add _ (X * Z) (Y * Z) 76 76 _ MXZ.out MYZ.out (by omega) (by omega) (by omega) (by omega) HT23.out).mono ?_
  rintro e w24 ⟨rfl, hb⟩
  have XC24 := hid (XC23.out.keep hb)
  have HB24 : Hid (Below w.heap.size w w24) := HB23.out.trans (hb.mono HB23.out.size)
  have HT24 := hid (HT23.out.below hb)
  clear hb XC23 HB23 HT23
  rw [← Rat.add_mul]
  have c0 := XC24.out.cell 0 _ rfl
  go_wp2
  go_ret
  exact ⟨rfl, HB24.out⟩

theorem field_any (p q r s t u : Int) (w : World) (p0 : -9223372036854775808 ≤ p) (p1 : p ≤ 9223372036854775807) (q0 : -9223372036854775808 ≤ q) (q1 : q ≤ 9223372036854775807) (r0 : -9223372036854775808 ≤ r) (r1 : r ≤ 9223372036854775807) (s0 : -9223372036854775808 ≤ s) (s1 : s ≤ 9223372036854775807) (t0 : -9223372036854775808 ≤ t) (t1 : t ≤ 9223372036854775807) (u0 : -9223372036854775808 ≤ u) (u1 : u ≤ 9223372036854775807) (ht : Tab w) :
    Calls Tryd.prog 5 #[.int .i64 p, .int .i64 q, .int .i64 r, .int .i64 s, .int .i64 t, .int .i64 u] w fun e w' => e = .returned (.bool true) ∧ Below w.heap.size w w' := by
  by_cases hq : q = 0 <;> by_cases hr : r = 0
  · exact field_zz p q r s t u w p0 p1 q0 q1 r0 r1 s0 s1 t0 t1 u0 u1 ht hq hr
  · exact field_zn p q r s t u w p0 p1 q0 q1 r0 r1 s0 s1 t0 t1 u0 u1 ht hq hr
  · exact field_nz p q r s t u w p0 p1 q0 q1 r0 r1 s0 s1 t0 t1 u0 u1 ht hq hr
  · exact field_nn p q r s t u w p0 p1 q0 q1 r0 r1 s0 s1 t0 t1 u0 u1 ht hq hr
end Go.Proofs.YtigokanoflkinaaDoor
