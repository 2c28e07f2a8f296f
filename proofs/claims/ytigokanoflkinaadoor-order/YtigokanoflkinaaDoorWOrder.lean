/- portionkeep.Order answers true, whatever four ints it is given. (Laid by mkord.py.) -/
import Derived.Test.YtigokanoflkinaaDoorWOrdA
namespace Go.Proofs.YtigokanoflkinaaDoor
set_option linter.unusedSimpArgs false
set_option linter.unusedVariables false
open Go.RowKit Por

theorem fr_lt (p q k : Int) (hq : 0 < q) : fr p q < (k : Rat) ↔ p < k * q := by
  have hb := fr_back p q (by omega)
  have h0 : (0 : Rat) < (q : Rat) := by have := (int_lt 0 q).2 hq; exact this
  rw [← Rat.mul_lt_mul_right h0, hb, ← Rat.intCast_mul, int_lt]
theorem td_bounds (p q : Int) (hq : 0 < q) : p - q < p.tdiv q * q ∧ p.tdiv q * q < p + q ∧ (p ≤ 0 → p ≤ p.tdiv q * q ∧ p.tdiv q * q ≤ 0) ∧ (0 ≤ p → 0 ≤ p.tdiv q * q ∧ p.tdiv q * q ≤ p) := by
  have e := Int.mul_tdiv_add_tmod p q
  rw [Int.mul_comm] at e
  have h1 := Int.tmod_lt_of_pos p hq
  have h2 := Int.lt_tmod_of_pos p hq
  by_cases hp : 0 ≤ p
  · have h3 : 0 ≤ p.tdiv q := Int.tdiv_nonneg hp (by omega)
    have h4 : 0 ≤ p.tdiv q * q := Int.mul_nonneg h3 (by omega)
    have h5 : 0 ≤ p.tmod q := Int.tmod_nonneg q hp
    refine ⟨by omega, by omega, fun h => ?_, fun _ => by omega⟩
    omega
  · have h3 : p.tdiv q ≤ 0 := by
      have := Int.tdiv_nonneg (show 0 ≤ -p by omega) (show 0 ≤ q by omega)
      rw [Int.neg_tdiv] at this; omega
    have h4 : p.tdiv q * q ≤ 0 := Int.mul_nonpos_of_nonpos_of_nonneg h3 (by omega)
    have h5 : p.tmod q ≤ 0 := by
      have := Int.tmod_nonneg q (show 0 ≤ -p by omega)
      rw [Int.neg_tmod] at this; omega
    refine ⟨by omega, by omega, fun _ => by omega, fun h => ?_⟩
    omega
theorem td_small (p q : Int) (hq : 0 < q) : (p ≤ 0 → p ≤ p.tdiv q ∧ p.tdiv q ≤ 0) ∧ (0 ≤ p → 0 ≤ p.tdiv q ∧ p.tdiv q ≤ p) := by
  have hp : ∀ n : Int, 0 ≤ n → 0 ≤ n.tdiv q ∧ n.tdiv q ≤ n := by
    intro n hn
    refine ⟨Int.tdiv_nonneg hn (by omega), ?_⟩
    rw [Int.tdiv_eq_ediv_of_nonneg hn]
    exact Int.ediv_le_self q hn
  refine ⟨fun h => ?_, hp p⟩
  have := hp (-p) (by omega)
  rw [Int.neg_tdiv] at this
  omega
theorem td_dec (p q : Int) (hq : 0 < q) (hv : p < p.tdiv q * q) : p < p.tdiv q ∧ p < 0 := by
  obtain ⟨b1, b2, b3, b4⟩ := td_bounds p q hq
  obtain ⟨s1, s2⟩ := td_small p q hq
  have hp : p < 0 := by
    rcases Int.lt_or_le p 0 with h | h
    · exact h
    · have := b4 h; omega
  refine ⟨?_, hp⟩
  have h1 := s1 (by omega)
  have h2 : p.tdiv q * q ≤ p.tdiv q * 1 := Int.mul_le_mul_of_nonpos_left h1.2 (by omega)
  omega
theorem fl_ex (p q : Int) (hq : 0 < q) (hv : ¬ p < p.tdiv q * q) : flQ (fr p q) = ((p.tdiv q : Int) : Rat) := by
  obtain ⟨b1, b2, b3, b4⟩ := td_bounds p q hq
  refine fl_only _ _ (by rw [fr_lt p q _ hq]; exact hv) ?_
  rw [fr_lt p q _ hq, Int.add_mul]
  omega
theorem fl_dec (p q : Int) (hq : 0 < q) (hv : p < p.tdiv q * q) : flQ (fr p q) = ((p.tdiv q - 1 : Int) : Rat) := by
  obtain ⟨b1, b2, b3, b4⟩ := td_bounds p q hq
  refine fl_only _ _ (by rw [fr_lt p q _ hq, Int.sub_mul]; omega) ?_
  rw [fr_lt p q _ hq, Int.sub_add_cancel]
  exact hv

set_option maxHeartbeats 4000000 in
set_option maxRecDepth 20000 in
theorem order_np (p q r s : Int) (w : World) (p0 : -9223372036854775808 ≤ p) (p1 : p ≤ 9223372036854775807) (q0 : -9223372036854775808 ≤ q) (q1 : q ≤ 9223372036854775807) (r0 : -9223372036854775808 ≤ r) (r1 : r ≤ 9223372036854775807) (s0 : -9223372036854775808 ≤ s) (s1 : s ≤ 9223372036854775807) (ht : Tab w) (hq : q ≤ 0) :
    Calls Tryd.prog 6 #[.int .i64 p, .int .i64 q, .int .i64 r, .int .i64 s] w fun e w' => e = .returned (.bool true) ∧ Below w.heap.size w w' := by
  have XC0 := hid (bx_new w #[.bool false] 49)
  have HB0 := hid ((Below.refl _ w).alloc (Nat.le_refl _) (.cells #[.bool false] 49))
  have HT0 := hid (ht.below HB0.out)
  obtain ⟨X, HX⟩ : ∃ X, Hid (fr p q = X) := ⟨_, rfl⟩
  obtain ⟨Y, HY⟩ : ∃ Y, Hid (fr r s = Y) := ⟨_, rfl⟩
  have DX : Hid (Dg X 38) := by have := fr_dg p q p0 p1 q0 q1; rwa [HX.out] at this
  have DY : Hid (Dg Y 38) := by have := fr_dg r s r0 r1 s0 s1; rwa [HY.out] at this
  have DXY := hid (DX.out.add DY.out)
  have DYY := hid (DY.out.add DY.out)
  have SXY := hid (DX.out.sub DY.out)
  have DF := hid DX.out.floor
  have DP := hid (Dg.int p p0 p1)
  have DR := hid (Dg.int r r0 r1)
  have D0 := hid (Dg.int 0 (by omega) (by omega))
  have D1 := hid (Dg.int 1 (by omega) (by omega))
  have DF1 := hid (DF.out.add D1.out)
  have E0 := hid txt_zero
  have E1 := hid txt_one
  obtain ⟨N, HN⟩ : ∃ N, Hid (cmpQ X Y = N) := ⟨_, rfl⟩
  have hN0 : -1 ≤ N := by have := (cmp_b X Y).1; rwa [HN.out] at this
  have hN1 : N ≤ 1 := by have := (cmp_b X Y).2; rwa [HN.out] at this
  have hEq : (txt X == txt Y) = (N == 0) := by
    by_cases h : X = Y
    · have : N = 0 := by rw [← HN.out]; exact (cmp_zero X Y).2 h
      rw [this, h]; simp
    · have h0 : N ≠ 0 := by rw [← HN.out]; exact fun hc => h ((cmp_zero X Y).1 hc)
      rw [beq_eq_false_iff_ne.2 (fun hc => DX.out.txt_ne DY.out (by omega) (by omega) (by omega) (by omega) h (by rw [hc])), beq_eq_false_iff_ne.2 h0]
  obtain ⟨C, hC0, HC⟩ : ∃ C : Int, C ≤ 0 ∧ Hid (cmpQ (flQ X) X = C) := ⟨_, by unfold cmpQ; split; omega; split; omega; rename_i h1 h2; rcases q_tri (flQ X) X with h | h | h; exact absurd h h1; exact absurd h h2; exact absurd h (fl_below X), rfl⟩
  have HG : Hid (cmpQ (flQ X + ((1 : Int) : Rat)) X = 1) := cmp_gt (fl_above X)
  have hq' : ¬ 0 < q := by omega
  have HQ := hid hq
  clear ht
  go_enter Tryd.func6, Tryd.ntmps6
  go_wp2_with fail
  refine (itoa_any p p0 p1 _ HT0.out).mono ?_
  rintro e w1 ⟨rfl, hb⟩
  have XC1 := hid (XC0.out.keep hb)
  have HB1 : Hid (Below w.heap.size w w1) := HB0.out.trans (hb.mono HB0.out.size)
  have HT1 := hid (HT0.out.below hb)
  clear hb XC0 HB0 HT0
  rw [← txt_int]
  go_wp2_with fail
  refine (itoa_any r r0 r1 _ HT1.out).mono ?_
  rintro e w2 ⟨rfl, hb⟩
  have XC2 := hid (XC1.out.keep hb)
  have HB2 : Hid (Below w.heap.size w w2) := HB1.out.trans (hb.mono HB1.out.size)
  have HT2 := hid (HT1.out.below hb)
  clear hb XC1 HB1 HT1
  rw [← txt_int]
  go_wp2_with fail
  refine (k_cmp _ ((p : Rat)) ((r : Rat)) 19 19 _ DP.out DR.out (by omega) (by omega) (by omega) (by omega) HT2.out).mono ?_
  rintro e w3 ⟨rfl, hb⟩
  have XC3 := hid (XC2.out.keep hb)
  have HB3 : Hid (Below w.heap.size w w3) := HB2.out.trans (hb.mono HB2.out.size)
  have HT3 := hid (HT2.out.below hb)
  clear hb XC2 HB2 HT2
  rw [cmp_int]
  go_wp2_with fail
  refine (sign_any p r _).mono ?_
  rintro e w4 ⟨rfl, hb⟩
  have XC4 := hid (XC3.out.keep hb)
  have HB4 : Hid (Below w.heap.size w w4) := HB3.out.trans (hb.mono HB3.out.size)
  have HT4 := hid (HT3.out.below hb)
  clear hb XC3 HB3 HT3
  go_wp2_with fail
  refine (of_any _ p q _ p0 p1 q0 q1 HT4.out).mono ?_
  rintro e w5 ⟨rfl, hb⟩
  have XC5 := hid (XC4.out.keep hb)
  have HB5 : Hid (Below w.heap.size w w5) := HB4.out.trans (hb.mono HB4.out.size)
  have HT5 := hid (HT4.out.below hb)
  clear hb XC4 HB4 HT4
  rw [HX.out]
  go_wp2_with fail
  refine (of_any _ r s _ r0 r1 s0 s1 HT5.out).mono ?_
  rintro e w6 ⟨rfl, hb⟩
  have XC6 := hid (XC5.out.keep hb)
  have HB6 : Hid (Below w.heap.size w w6) := HB5.out.trans (hb.mono HB5.out.size)
  have HT6 := hid (HT5.out.below hb)
  clear hb XC5 HB5 HT5
  rw [HY.out]
  go_wp2_with fail
  refine (k_cmp _ (X) (Y) 38 38 _ DX.out DY.out (by omega) (by omega) (by omega) (by omega) HT6.out).mono ?_
  rintro e w7 ⟨rfl, hb⟩
  have XC7 := hid (XC6.out.keep hb)
  have HB7 : Hid (Below w.heap.size w w7) := HB6.out.trans (hb.mono HB6.out.size)
  have HT7 := hid (HT6.out.below hb)
  clear hb XC6 HB6 HT6
  rw [HN.out]
  go_wp2_with fail
  refine (k_cmp _ (Y) (X) 38 38 _ DY.out DX.out (by omega) (by omega) (by omega) (by omega) HT7.out).mono ?_
  rintro e w8 ⟨rfl, hb⟩
  have XC8 := hid (XC7.out.keep hb)
  have HB8 : Hid (Below w.heap.size w w8) := HB7.out.trans (hb.mono HB7.out.size)
  have HT8 := hid (HT7.out.below hb)
  clear hb XC7 HB7 HT7
  rw [cmp_swap X Y, HN.out]
  go_wp2_with fail
  refine (k_sub _ (X) (Y) 38 38 _ DX.out DY.out (by omega) (by omega) (by omega) (by omega) HT8.out).mono ?_
  rintro e w9 ⟨rfl, hb⟩
  have XC9 := hid (XC8.out.keep hb)
  have HB9 : Hid (Below w.heap.size w w9) := HB8.out.trans (hb.mono HB8.out.size)
  have HT9 := hid (HT8.out.below hb)
  clear hb XC8 HB8 HT8
  go_wp2_with fail
  have CC := k_cmp (.pointer (some ⟨w.heap.size, 0, none⟩)) (X - Y) (((0 : Int) : Rat)) 77 19 w9 SXY.out D0.out (by omega) (by omega) (by omega) (by omega) HT9.out
  rw [show txt ((0 : Int) : Rat) = [48] from E0.out] at CC
  refine CC.mono ?_
  clear CC
  rintro e w10 ⟨rfl, hb⟩
  have XC10 := hid (XC9.out.keep hb)
  have HB10 : Hid (Below w.heap.size w w10) := HB9.out.trans (hb.mono HB9.out.size)
  have HT10 := hid (HT9.out.below hb)
  clear hb XC9 HB9 HT9
  rw [show cmpQ (X - Y) ((0 : Int) : Rat) = N from (cmp_sub X Y).trans HN.out]
  go_wp2_with fail
  refine (k_add _ (X) (Y) 38 38 _ DX.out DY.out (by omega) (by omega) (by omega) (by omega) HT10.out).mono ?_
  rintro e w11 ⟨rfl, hb⟩
  have XC11 := hid (XC10.out.keep hb)
  have HB11 : Hid (Below w.heap.size w w11) := HB10.out.trans (hb.mono HB10.out.size)
  have HT11 := hid (HT10.out.below hb)
  clear hb XC10 HB10 HT10
  go_wp2_with fail
  refine (k_add _ (Y) (Y) 38 38 _ DY.out DY.out (by omega) (by omega) (by omega) (by omega) HT11.out).mono ?_
  rintro e w12 ⟨rfl, hb⟩
  have XC12 := hid (XC11.out.keep hb)
  have HB12 : Hid (Below w.heap.size w w12) := HB11.out.trans (hb.mono HB11.out.size)
  have HT12 := hid (HT11.out.below hb)
  clear hb XC11 HB11 HT11
  go_wp2_with fail
  refine (k_cmp _ (X + Y) (Y + Y) 77 77 _ DXY.out DYY.out (by omega) (by omega) (by omega) (by omega) HT12.out).mono ?_
  rintro e w13 ⟨rfl, hb⟩
  have XC13 := hid (XC12.out.keep hb)
  have HB13 : Hid (Below w.heap.size w w13) := HB12.out.trans (hb.mono HB12.out.size)
  have HT13 := hid (HT12.out.below hb)
  clear hb XC12 HB12 HT12
  rw [cmp_add, HN.out]
  go_wp2_with fail
  refine (k_floor _ X 38 _ DX.out (by omega) (by omega) HT13.out).mono ?_
  rintro e w14 ⟨rfl, hb⟩
  have XC14 := hid (XC13.out.keep hb)
  have HB14 : Hid (Below w.heap.size w w14) := HB13.out.trans (hb.mono HB13.out.size)
  have HT14 := hid (HT13.out.below hb)
  clear hb XC13 HB13 HT13
  go_wp2_with fail
  refine (k_cmp _ (flQ X) (X) 38 38 _ DF.out DX.out (by omega) (by omega) (by omega) (by omega) HT14.out).mono ?_
  rintro e w15 ⟨rfl, hb⟩
  have XC15 := hid (XC14.out.keep hb)
  have HB15 : Hid (Below w.heap.size w w15) := HB14.out.trans (hb.mono HB14.out.size)
  have HT15 := hid (HT14.out.below hb)
  clear hb XC14 HB14 HT14
  rw [HC.out]
  go_wp2_with fail
  have CC := k_add (.pointer (some ⟨w.heap.size, 0, none⟩)) (flQ X) (((1 : Int) : Rat)) 38 19 w15 DF.out D1.out (by omega) (by omega) (by omega) (by omega) HT15.out
  rw [show txt ((1 : Int) : Rat) = [49] from E1.out] at CC
  refine CC.mono ?_
  clear CC
  rintro e w16 ⟨rfl, hb⟩
  have XC16 := hid (XC15.out.keep hb)
  have HB16 : Hid (Below w.heap.size w w16) := HB15.out.trans (hb.mono HB15.out.size)
  have HT16 := hid (HT15.out.below hb)
  clear hb XC15 HB15 HT15
  go_wp2_with fail
  refine (k_cmp _ (flQ X + ((1 : Int) : Rat)) (X) 58 38 _ DF1.out DX.out (by omega) (by omega) (by omega) (by omega) HT16.out).mono ?_
  rintro e w17 ⟨rfl, hb⟩
  have XC17 := hid (XC16.out.keep hb)
  have HB17 : Hid (Below w.heap.size w w17) := HB16.out.trans (hb.mono HB16.out.size)
  have HT17 := hid (HT16.out.below hb)
  clear hb XC16 HB16 HT16
  rw [HG.out]
  go_wp2_with fail
  refine (k_floor _ (flQ X) 38 _ DF.out (by omega) (by omega) HT17.out).mono ?_
  rintro e w18 ⟨rfl, hb⟩
  have XC18 := hid (XC17.out.keep hb)
  have HB18 : Hid (Below w.heap.size w w18) := HB17.out.trans (hb.mono HB17.out.size)
  have HT18 := hid (HT17.out.below hb)
  clear hb XC17 HB17 HT17
  rw [show flQ (flQ X) = flQ X from fl_int _]
  have c0 := XC18.out.cell 0 _ rfl
  go_wp2
  go_ret
  exact ⟨rfl, HB18.out⟩

set_option maxHeartbeats 4000000 in
set_option maxRecDepth 20000 in
theorem order_ex (p q r s : Int) (w : World) (p0 : -9223372036854775808 ≤ p) (p1 : p ≤ 9223372036854775807) (q0 : -9223372036854775808 ≤ q) (q1 : q ≤ 9223372036854775807) (r0 : -9223372036854775808 ≤ r) (r1 : r ≤ 9223372036854775807) (s0 : -9223372036854775808 ≤ s) (s1 : s ≤ 9223372036854775807) (ht : Tab w) (hq : 0 < q) (hv : ¬ p < p.tdiv q * q) :
    Calls Tryd.prog 6 #[.int .i64 p, .int .i64 q, .int .i64 r, .int .i64 s] w fun e w' => e = .returned (.bool true) ∧ Below w.heap.size w w' := by
  have XC0 := hid (bx_new w #[.bool false] 49)
  have HB0 := hid ((Below.refl _ w).alloc (Nat.le_refl _) (.cells #[.bool false] 49))
  have HT0 := hid (ht.below HB0.out)
  obtain ⟨X, HX⟩ : ∃ X, Hid (fr p q = X) := ⟨_, rfl⟩
  obtain ⟨Y, HY⟩ : ∃ Y, Hid (fr r s = Y) := ⟨_, rfl⟩
  have DX : Hid (Dg X 38) := by have := fr_dg p q p0 p1 q0 q1; rwa [HX.out] at this
  have DY : Hid (Dg Y 38) := by have := fr_dg r s r0 r1 s0 s1; rwa [HY.out] at this
  have DXY := hid (DX.out.add DY.out)
  have DYY := hid (DY.out.add DY.out)
  have SXY := hid (DX.out.sub DY.out)
  have DF := hid DX.out.floor
  have DP := hid (Dg.int p p0 p1)
  have DR := hid (Dg.int r r0 r1)
  have D0 := hid (Dg.int 0 (by omega) (by omega))
  have D1 := hid (Dg.int 1 (by omega) (by omega))
  have DF1 := hid (DF.out.add D1.out)
  have E0 := hid txt_zero
  have E1 := hid txt_one
  obtain ⟨N, HN⟩ : ∃ N, Hid (cmpQ X Y = N) := ⟨_, rfl⟩
  have hN0 : -1 ≤ N := by have := (cmp_b X Y).1; rwa [HN.out] at this
  have hN1 : N ≤ 1 := by have := (cmp_b X Y).2; rwa [HN.out] at this
  have hEq : (txt X == txt Y) = (N == 0) := by
    by_cases h : X = Y
    · have : N = 0 := by rw [← HN.out]; exact (cmp_zero X Y).2 h
      rw [this, h]; simp
    · have h0 : N ≠ 0 := by rw [← HN.out]; exact fun hc => h ((cmp_zero X Y).1 hc)
      rw [beq_eq_false_iff_ne.2 (fun hc => DX.out.txt_ne DY.out (by omega) (by omega) (by omega) (by omega) h (by rw [hc])), beq_eq_false_iff_ne.2 h0]
  obtain ⟨C, hC0, HC⟩ : ∃ C : Int, C ≤ 0 ∧ Hid (cmpQ (flQ X) X = C) := ⟨_, by unfold cmpQ; split; omega; split; omega; rename_i h1 h2; rcases q_tri (flQ X) X with h | h | h; exact absurd h h1; exact absurd h h2; exact absurd h (fl_below X), rfl⟩
  have HG : Hid (cmpQ (flQ X + ((1 : Int) : Rat)) X = 1) := cmp_gt (fl_above X)
  obtain ⟨m1, m2, m3, m4⟩ := td_bounds p q hq
  obtain ⟨t1, t2⟩ := td_small p q hq
  have mb0 : -9223372036854775808 ≤ p.tdiv q * q := by omega
  have mb1 : p.tdiv q * q ≤ 9223372036854775807 := by omega
  have tb0 : -9223372036854775808 ≤ p.tdiv q := by omega
  have tb1 : p.tdiv q ≤ 9223372036854775807 := by omega
  have HV : Hid (flQ X = ((p.tdiv q : Int) : Rat)) := by show _ = _; rw [← HX.out]; exact fl_ex p q hq hv
  clear m1 m2 m3 m4 t1 t2
  have hqn : (q == 0) = false := by rw [beq_eq_false_iff_ne]; omega
  have hqm : (q == -1) = false := by rw [beq_eq_false_iff_ne]; omega
  have HQ := hid hq
  clear ht
  go_enter Tryd.func6, Tryd.ntmps6
  go_wp2_with fail
  refine (itoa_any p p0 p1 _ HT0.out).mono ?_
  rintro e w1 ⟨rfl, hb⟩
  have XC1 := hid (XC0.out.keep hb)
  have HB1 : Hid (Below w.heap.size w w1) := HB0.out.trans (hb.mono HB0.out.size)
  have HT1 := hid (HT0.out.below hb)
  clear hb XC0 HB0 HT0
  rw [← txt_int]
  go_wp2_with fail
  refine (itoa_any r r0 r1 _ HT1.out).mono ?_
  rintro e w2 ⟨rfl, hb⟩
  have XC2 := hid (XC1.out.keep hb)
  have HB2 : Hid (Below w.heap.size w w2) := HB1.out.trans (hb.mono HB1.out.size)
  have HT2 := hid (HT1.out.below hb)
  clear hb XC1 HB1 HT1
  rw [← txt_int]
  go_wp2_with fail
  refine (k_cmp _ ((p : Rat)) ((r : Rat)) 19 19 _ DP.out DR.out (by omega) (by omega) (by omega) (by omega) HT2.out).mono ?_
  rintro e w3 ⟨rfl, hb⟩
  have XC3 := hid (XC2.out.keep hb)
  have HB3 : Hid (Below w.heap.size w w3) := HB2.out.trans (hb.mono HB2.out.size)
  have HT3 := hid (HT2.out.below hb)
  clear hb XC2 HB2 HT2
  rw [cmp_int]
  go_wp2_with fail
  refine (sign_any p r _).mono ?_
  rintro e w4 ⟨rfl, hb⟩
  have XC4 := hid (XC3.out.keep hb)
  have HB4 : Hid (Below w.heap.size w w4) := HB3.out.trans (hb.mono HB3.out.size)
  have HT4 := hid (HT3.out.below hb)
  clear hb XC3 HB3 HT3
  go_wp2_with fail
  refine (of_any _ p q _ p0 p1 q0 q1 HT4.out).mono ?_
  rintro e w5 ⟨rfl, hb⟩
  have XC5 := hid (XC4.out.keep hb)
  have HB5 : Hid (Below w.heap.size w w5) := HB4.out.trans (hb.mono HB4.out.size)
  have HT5 := hid (HT4.out.below hb)
  clear hb XC4 HB4 HT4
  rw [HX.out]
  go_wp2_with fail
  refine (of_any _ r s _ r0 r1 s0 s1 HT5.out).mono ?_
  rintro e w6 ⟨rfl, hb⟩
  have XC6 := hid (XC5.out.keep hb)
  have HB6 : Hid (Below w.heap.size w w6) := HB5.out.trans (hb.mono HB5.out.size)
  have HT6 := hid (HT5.out.below hb)
  clear hb XC5 HB5 HT5
  rw [HY.out]
  go_wp2_with fail
  refine (k_cmp _ (X) (Y) 38 38 _ DX.out DY.out (by omega) (by omega) (by omega) (by omega) HT6.out).mono ?_
  rintro e w7 ⟨rfl, hb⟩
  have XC7 := hid (XC6.out.keep hb)
  have HB7 : Hid (Below w.heap.size w w7) := HB6.out.trans (hb.mono HB6.out.size)
  have HT7 := hid (HT6.out.below hb)
  clear hb XC6 HB6 HT6
  rw [HN.out]
  go_wp2_with fail
  refine (k_cmp _ (Y) (X) 38 38 _ DY.out DX.out (by omega) (by omega) (by omega) (by omega) HT7.out).mono ?_
  rintro e w8 ⟨rfl, hb⟩
  have XC8 := hid (XC7.out.keep hb)
  have HB8 : Hid (Below w.heap.size w w8) := HB7.out.trans (hb.mono HB7.out.size)
  have HT8 := hid (HT7.out.below hb)
  clear hb XC7 HB7 HT7
  rw [cmp_swap X Y, HN.out]
  go_wp2_with fail
  refine (k_sub _ (X) (Y) 38 38 _ DX.out DY.out (by omega) (by omega) (by omega) (by omega) HT8.out).mono ?_
  rintro e w9 ⟨rfl, hb⟩
  have XC9 := hid (XC8.out.keep hb)
  have HB9 : Hid (Below w.heap.size w w9) := HB8.out.trans (hb.mono HB8.out.size)
  have HT9 := hid (HT8.out.below hb)
  clear hb XC8 HB8 HT8
  go_wp2_with fail
  have CC := k_cmp (.pointer (some ⟨w.heap.size, 0, none⟩)) (X - Y) (((0 : Int) : Rat)) 77 19 w9 SXY.out D0.out (by omega) (by omega) (by omega) (by omega) HT9.out
  rw [show txt ((0 : Int) : Rat) = [48] from E0.out] at CC
  refine CC.mono ?_
  clear CC
  rintro e w10 ⟨rfl, hb⟩
  have XC10 := hid (XC9.out.keep hb)
  have HB10 : Hid (Below w.heap.size w w10) := HB9.out.trans (hb.mono HB9.out.size)
  have HT10 := hid (HT9.out.below hb)
  clear hb XC9 HB9 HT9
  rw [show cmpQ (X - Y) ((0 : Int) : Rat) = N from (cmp_sub X Y).trans HN.out]
  go_wp2_with fail
  refine (k_add _ (X) (Y) 38 38 _ DX.out DY.out (by omega) (by omega) (by omega) (by omega) HT10.out).mono ?_
  rintro e w11 ⟨rfl, hb⟩
  have XC11 := hid (XC10.out.keep hb)
  have HB11 : Hid (Below w.heap.size w w11) := HB10.out.trans (hb.mono HB10.out.size)
  have HT11 := hid (HT10.out.below hb)
  clear hb XC10 HB10 HT10
  go_wp2_with fail
  refine (k_add _ (Y) (Y) 38 38 _ DY.out DY.out (by omega) (by omega) (by omega) (by omega) HT11.out).mono ?_
  rintro e w12 ⟨rfl, hb⟩
  have XC12 := hid (XC11.out.keep hb)
  have HB12 : Hid (Below w.heap.size w w12) := HB11.out.trans (hb.mono HB11.out.size)
  have HT12 := hid (HT11.out.below hb)
  clear hb XC11 HB11 HT11
  go_wp2_with fail
  refine (k_cmp _ (X + Y) (Y + Y) 77 77 _ DXY.out DYY.out (by omega) (by omega) (by omega) (by omega) HT12.out).mono ?_
  rintro e w13 ⟨rfl, hb⟩
  have XC13 := hid (XC12.out.keep hb)
  have HB13 : Hid (Below w.heap.size w w13) := HB12.out.trans (hb.mono HB12.out.size)
  have HT13 := hid (HT12.out.below hb)
  clear hb XC12 HB12 HT12
  rw [cmp_add, HN.out]
  go_wp2_with fail
  refine (k_floor _ X 38 _ DX.out (by omega) (by omega) HT13.out).mono ?_
  rintro e w14 ⟨rfl, hb⟩
  have XC14 := hid (XC13.out.keep hb)
  have HB14 : Hid (Below w.heap.size w w14) := HB13.out.trans (hb.mono HB13.out.size)
  have HT14 := hid (HT13.out.below hb)
  clear hb XC13 HB13 HT13
  go_wp2_with fail
  refine (k_cmp _ (flQ X) (X) 38 38 _ DF.out DX.out (by omega) (by omega) (by omega) (by omega) HT14.out).mono ?_
  rintro e w15 ⟨rfl, hb⟩
  have XC15 := hid (XC14.out.keep hb)
  have HB15 : Hid (Below w.heap.size w w15) := HB14.out.trans (hb.mono HB14.out.size)
  have HT15 := hid (HT14.out.below hb)
  clear hb XC14 HB14 HT14
  rw [HC.out]
  go_wp2_with fail
  have CC := k_add (.pointer (some ⟨w.heap.size, 0, none⟩)) (flQ X) (((1 : Int) : Rat)) 38 19 w15 DF.out D1.out (by omega) (by omega) (by omega) (by omega) HT15.out
  rw [show txt ((1 : Int) : Rat) = [49] from E1.out] at CC
  refine CC.mono ?_
  clear CC
  rintro e w16 ⟨rfl, hb⟩
  have XC16 := hid (XC15.out.keep hb)
  have HB16 : Hid (Below w.heap.size w w16) := HB15.out.trans (hb.mono HB15.out.size)
  have HT16 := hid (HT15.out.below hb)
  clear hb XC15 HB15 HT15
  go_wp2_with fail
  refine (k_cmp _ (flQ X + ((1 : Int) : Rat)) (X) 58 38 _ DF1.out DX.out (by omega) (by omega) (by omega) (by omega) HT16.out).mono ?_
  rintro e w17 ⟨rfl, hb⟩
  have XC17 := hid (XC16.out.keep hb)
  have HB17 : Hid (Below w.heap.size w w17) := HB16.out.trans (hb.mono HB16.out.size)
  have HT17 := hid (HT16.out.below hb)
  clear hb XC16 HB16 HT16
  rw [HG.out]
  go_wp2_with fail
  refine (itoa_any (p.tdiv q) (by omega) (by omega) _ HT17.out).mono ?_
  rintro e w18 ⟨rfl, hb⟩
  have XC18 := hid (XC17.out.keep hb)
  have HB18 : Hid (Below w.heap.size w w18) := HB17.out.trans (hb.mono HB17.out.size)
  have HT18 := hid (HT17.out.below hb)
  clear hb XC17 HB17 HT17
  rw [← txt_int, ← HV.out]
  go_wp2_with fail
  refine (k_floor _ (flQ X) 38 _ DF.out (by omega) (by omega) HT18.out).mono ?_
  rintro e w19 ⟨rfl, hb⟩
  have XC19 := hid (XC18.out.keep hb)
  have HB19 : Hid (Below w.heap.size w w19) := HB18.out.trans (hb.mono HB18.out.size)
  have HT19 := hid (HT18.out.below hb)
  clear hb XC18 HB18 HT18
  rw [show flQ (flQ X) = flQ X from fl_int _]
  have c0 := XC19.out.cell 0 _ rfl
  go_wp2
  go_ret
  exact ⟨rfl, HB19.out⟩

set_option maxHeartbeats 4000000 in
set_option maxRecDepth 20000 in
theorem order_dec (p q r s : Int) (w : World) (p0 : -9223372036854775808 ≤ p) (p1 : p ≤ 9223372036854775807) (q0 : -9223372036854775808 ≤ q) (q1 : q ≤ 9223372036854775807) (r0 : -9223372036854775808 ≤ r) (r1 : r ≤ 9223372036854775807) (s0 : -9223372036854775808 ≤ s) (s1 : s ≤ 9223372036854775807) (ht : Tab w) (hq : 0 < q) (hv : p < p.tdiv q * q) :
    Calls Tryd.prog 6 #[.int .i64 p, .int .i64 q, .int .i64 r, .int .i64 s] w fun e w' => e = .returned (.bool true) ∧ Below w.heap.size w w' := by
  have XC0 := hid (bx_new w #[.bool false] 49)
  have HB0 := hid ((Below.refl _ w).alloc (Nat.le_refl _) (.cells #[.bool false] 49))
  have HT0 := hid (ht.below HB0.out)
  obtain ⟨X, HX⟩ : ∃ X, Hid (fr p q = X) := ⟨_, rfl⟩
  obtain ⟨Y, HY⟩ : ∃ Y, Hid (fr r s = Y) := ⟨_, rfl⟩
  have DX : Hid (Dg X 38) := by have := fr_dg p q p0 p1 q0 q1; rwa [HX.out] at this
  have DY : Hid (Dg Y 38) := by have := fr_dg r s r0 r1 s0 s1; rwa [HY.out] at this
  have DXY := hid (DX.out.add DY.out)
  have DYY := hid (DY.out.add DY.out)
  have SXY := hid (DX.out.sub DY.out)
  have DF := hid DX.out.floor
  have DP := hid (Dg.int p p0 p1)
  have DR := hid (Dg.int r r0 r1)
  have D0 := hid (Dg.int 0 (by omega) (by omega))
  have D1 := hid (Dg.int 1 (by omega) (by omega))
  have DF1 := hid (DF.out.add D1.out)
  have E0 := hid txt_zero
  have E1 := hid txt_one
  obtain ⟨N, HN⟩ : ∃ N, Hid (cmpQ X Y = N) := ⟨_, rfl⟩
  have hN0 : -1 ≤ N := by have := (cmp_b X Y).1; rwa [HN.out] at this
  have hN1 : N ≤ 1 := by have := (cmp_b X Y).2; rwa [HN.out] at this
  have hEq : (txt X == txt Y) = (N == 0) := by
    by_cases h : X = Y
    · have : N = 0 := by rw [← HN.out]; exact (cmp_zero X Y).2 h
      rw [this, h]; simp
    · have h0 : N ≠ 0 := by rw [← HN.out]; exact fun hc => h ((cmp_zero X Y).1 hc)
      rw [beq_eq_false_iff_ne.2 (fun hc => DX.out.txt_ne DY.out (by omega) (by omega) (by omega) (by omega) h (by rw [hc])), beq_eq_false_iff_ne.2 h0]
  obtain ⟨C, hC0, HC⟩ : ∃ C : Int, C ≤ 0 ∧ Hid (cmpQ (flQ X) X = C) := ⟨_, by unfold cmpQ; split; omega; split; omega; rename_i h1 h2; rcases q_tri (flQ X) X with h | h | h; exact absurd h h1; exact absurd h h2; exact absurd h (fl_below X), rfl⟩
  have HG : Hid (cmpQ (flQ X + ((1 : Int) : Rat)) X = 1) := cmp_gt (fl_above X)
  obtain ⟨m1, m2, m3, m4⟩ := td_bounds p q hq
  obtain ⟨t1, t2⟩ := td_small p q hq
  have mb0 : -9223372036854775808 ≤ p.tdiv q * q := by omega
  have mb1 : p.tdiv q * q ≤ 9223372036854775807 := by omega
  have tb0 : -9223372036854775808 ≤ p.tdiv q := by omega
  have tb1 : p.tdiv q ≤ 9223372036854775807 := by omega
  have td := (td_dec p q hq hv).1
  have tb2 : -9223372036854775808 ≤ p.tdiv q - 1 := by omega
  have tb3 : p.tdiv q - 1 ≤ 9223372036854775807 := by omega
  have HV : Hid (flQ X = ((p.tdiv q - 1 : Int) : Rat)) := by show _ = _; rw [← HX.out]; exact fl_dec p q hq hv
  clear m1 m2 m3 m4 t1 t2
  have hqn : (q == 0) = false := by rw [beq_eq_false_iff_ne]; omega
  have hqm : (q == -1) = false := by rw [beq_eq_false_iff_ne]; omega
  have HQ := hid hq
  clear ht
  go_enter Tryd.func6, Tryd.ntmps6
  go_wp2_with fail
  refine (itoa_any p p0 p1 _ HT0.out).mono ?_
  rintro e w1 ⟨rfl, hb⟩
  have XC1 := hid (XC0.out.keep hb)
  have HB1 : Hid (Below w.heap.size w w1) := HB0.out.trans (hb.mono HB0.out.size)
  have HT1 := hid (HT0.out.below hb)
  clear hb XC0 HB0 HT0
  rw [← txt_int]
  go_wp2_with fail
  refine (itoa_any r r0 r1 _ HT1.out).mono ?_
  rintro e w2 ⟨rfl, hb⟩
  have XC2 := hid (XC1.out.keep hb)
  have HB2 : Hid (Below w.heap.size w w2) := HB1.out.trans (hb.mono HB1.out.size)
  have HT2 := hid (HT1.out.below hb)
  clear hb XC1 HB1 HT1
  rw [← txt_int]
  go_wp2_with fail
  refine (k_cmp _ ((p : Rat)) ((r : Rat)) 19 19 _ DP.out DR.out (by omega) (by omega) (by omega) (by omega) HT2.out).mono ?_
  rintro e w3 ⟨rfl, hb⟩
  have XC3 := hid (XC2.out.keep hb)
  have HB3 : Hid (Below w.heap.size w w3) := HB2.out.trans (hb.mono HB2.out.size)
  have HT3 := hid (HT2.out.below hb)
  clear hb XC2 HB2 HT2
  rw [cmp_int]
  go_wp2_with fail
  refine (sign_any p r _).mono ?_
  rintro e w4 ⟨rfl, hb⟩
  have XC4 := hid (XC3.out.keep hb)
  have HB4 : Hid (Below w.heap.size w w4) := HB3.out.trans (hb.mono HB3.out.size)
  have HT4 := hid (HT3.out.below hb)
  clear hb XC3 HB3 HT3
  go_wp2_with fail
  refine (of_any _ p q _ p0 p1 q0 q1 HT4.out).mono ?_
  rintro e w5 ⟨rfl, hb⟩
  have XC5 := hid (XC4.out.keep hb)
  have HB5 : Hid (Below w.heap.size w w5) := HB4.out.trans (hb.mono HB4.out.size)
  have HT5 := hid (HT4.out.below hb)
  clear hb XC4 HB4 HT4
  rw [HX.out]
  go_wp2_with fail
  refine (of_any _ r s _ r0 r1 s0 s1 HT5.out).mono ?_
  rintro e w6 ⟨rfl, hb⟩
  have XC6 := hid (XC5.out.keep hb)
  have HB6 : Hid (Below w.heap.size w w6) := HB5.out.trans (hb.mono HB5.out.size)
  have HT6 := hid (HT5.out.below hb)
  clear hb XC5 HB5 HT5
  rw [HY.out]
  go_wp2_with fail
  refine (k_cmp _ (X) (Y) 38 38 _ DX.out DY.out (by omega) (by omega) (by omega) (by omega) HT6.out).mono ?_
  rintro e w7 ⟨rfl, hb⟩
  have XC7 := hid (XC6.out.keep hb)
  have HB7 : Hid (Below w.heap.size w w7) := HB6.out.trans (hb.mono HB6.out.size)
  have HT7 := hid (HT6.out.below hb)
  clear hb XC6 HB6 HT6
  rw [HN.out]
  go_wp2_with fail
  refine (k_cmp _ (Y) (X) 38 38 _ DY.out DX.out (by omega) (by omega) (by omega) (by omega) HT7.out).mono ?_
  rintro e w8 ⟨rfl, hb⟩
  have XC8 := hid (XC7.out.keep hb)
  have HB8 : Hid (Below w.heap.size w w8) := HB7.out.trans (hb.mono HB7.out.size)
  have HT8 := hid (HT7.out.below hb)
  clear hb XC7 HB7 HT7
  rw [cmp_swap X Y, HN.out]
  go_wp2_with fail
  refine (k_sub _ (X) (Y) 38 38 _ DX.out DY.out (by omega) (by omega) (by omega) (by omega) HT8.out).mono ?_
  rintro e w9 ⟨rfl, hb⟩
  have XC9 := hid (XC8.out.keep hb)
  have HB9 : Hid (Below w.heap.size w w9) := HB8.out.trans (hb.mono HB8.out.size)
  have HT9 := hid (HT8.out.below hb)
  clear hb XC8 HB8 HT8
  go_wp2_with fail
  have CC := k_cmp (.pointer (some ⟨w.heap.size, 0, none⟩)) (X - Y) (((0 : Int) : Rat)) 77 19 w9 SXY.out D0.out (by omega) (by omega) (by omega) (by omega) HT9.out
  rw [show txt ((0 : Int) : Rat) = [48] from E0.out] at CC
  refine CC.mono ?_
  clear CC
  rintro e w10 ⟨rfl, hb⟩
  have XC10 := hid (XC9.out.keep hb)
  have HB10 : Hid (Below w.heap.size w w10) := HB9.out.trans (hb.mono HB9.out.size)
  have HT10 := hid (HT9.out.below hb)
  clear hb XC9 HB9 HT9
  rw [show cmpQ (X - Y) ((0 : Int) : Rat) = N from (cmp_sub X Y).trans HN.out]
  go_wp2_with fail
  refine (k_add _ (X) (Y) 38 38 _ DX.out DY.out (by omega) (by omega) (by omega) (by omega) HT10.out).mono ?_
  rintro e w11 ⟨rfl, hb⟩
  have XC11 := hid (XC10.out.keep hb)
  have HB11 : Hid (Below w.heap.size w w11) := HB10.out.trans (hb.mono HB10.out.size)
  have HT11 := hid (HT10.out.below hb)
  clear hb XC10 HB10 HT10
  go_wp2_with fail
  refine (k_add _ (Y) (Y) 38 38 _ DY.out DY.out (by omega) (by omega) (by omega) (by omega) HT11.out).mono ?_
  rintro e w12 ⟨rfl, hb⟩
  have XC12 := hid (XC11.out.keep hb)
  have HB12 : Hid (Below w.heap.size w w12) := HB11.out.trans (hb.mono HB11.out.size)
  have HT12 := hid (HT11.out.below hb)
  clear hb XC11 HB11 HT11
  go_wp2_with fail
  refine (k_cmp _ (X + Y) (Y + Y) 77 77 _ DXY.out DYY.out (by omega) (by omega) (by omega) (by omega) HT12.out).mono ?_
  rintro e w13 ⟨rfl, hb⟩
  have XC13 := hid (XC12.out.keep hb)
  have HB13 : Hid (Below w.heap.size w w13) := HB12.out.trans (hb.mono HB12.out.size)
  have HT13 := hid (HT12.out.below hb)
  clear hb XC12 HB12 HT12
  rw [cmp_add, HN.out]
  go_wp2_with fail
  refine (k_floor _ X 38 _ DX.out (by omega) (by omega) HT13.out).mono ?_
  rintro e w14 ⟨rfl, hb⟩
  have XC14 := hid (XC13.out.keep hb)
  have HB14 : Hid (Below w.heap.size w w14) := HB13.out.trans (hb.mono HB13.out.size)
  have HT14 := hid (HT13.out.below hb)
  clear hb XC13 HB13 HT13
  go_wp2_with fail
  refine (k_cmp _ (flQ X) (X) 38 38 _ DF.out DX.out (by omega) (by omega) (by omega) (by omega) HT14.out).mono ?_
  rintro e w15 ⟨rfl, hb⟩
  have XC15 := hid (XC14.out.keep hb)
  have HB15 : Hid (Below w.heap.size w w15) := HB14.out.trans (hb.mono HB14.out.size)
  have HT15 := hid (HT14.out.below hb)
  clear hb XC14 HB14 HT14
  rw [HC.out]
  go_wp2_with fail
  have CC := k_add (.pointer (some ⟨w.heap.size, 0, none⟩)) (flQ X) (((1 : Int) : Rat)) 38 19 w15 DF.out D1.out (by omega) (by omega) (by omega) (by omega) HT15.out
  rw [show txt ((1 : Int) : Rat) = [49] from E1.out] at CC
  refine CC.mono ?_
  clear CC
  rintro e w16 ⟨rfl, hb⟩
  have XC16 := hid (XC15.out.keep hb)
  have HB16 : Hid (Below w.heap.size w w16) := HB15.out.trans (hb.mono HB15.out.size)
  have HT16 := hid (HT15.out.below hb)
  clear hb XC15 HB15 HT15
  go_wp2_with fail
  refine (k_cmp _ (flQ X + ((1 : Int) : Rat)) (X) 58 38 _ DF1.out DX.out (by omega) (by omega) (by omega) (by omega) HT16.out).mono ?_
  rintro e w17 ⟨rfl, hb⟩
  have XC17 := hid (XC16.out.keep hb)
  have HB17 : Hid (Below w.heap.size w w17) := HB16.out.trans (hb.mono HB16.out.size)
  have HT17 := hid (HT16.out.below hb)
  clear hb XC16 HB16 HT16
  rw [HG.out]
  go_wp2_with fail
  refine (itoa_any (p.tdiv q - 1) (by omega) (by omega) _ HT17.out).mono ?_
  rintro e w18 ⟨rfl, hb⟩
  have XC18 := hid (XC17.out.keep hb)
  have HB18 : Hid (Below w.heap.size w w18) := HB17.out.trans (hb.mono HB17.out.size)
  have HT18 := hid (HT17.out.below hb)
  clear hb XC17 HB17 HT17
  rw [← txt_int, ← HV.out]
  go_wp2_with fail
  refine (k_floor _ (flQ X) 38 _ DF.out (by omega) (by omega) HT18.out).mono ?_
  rintro e w19 ⟨rfl, hb⟩
  have XC19 := hid (XC18.out.keep hb)
  have HB19 : Hid (Below w.heap.size w w19) := HB18.out.trans (hb.mono HB18.out.size)
  have HT19 := hid (HT18.out.below hb)
  clear hb XC18 HB18 HT18
  rw [show flQ (flQ X) = flQ X from fl_int _]
  have c0 := XC19.out.cell 0 _ rfl
  go_wp2
  go_ret
  exact ⟨rfl, HB19.out⟩

theorem order_any (p q r s : Int) (w : World) (p0 : -9223372036854775808 ≤ p) (p1 : p ≤ 9223372036854775807) (q0 : -9223372036854775808 ≤ q) (q1 : q ≤ 9223372036854775807) (r0 : -9223372036854775808 ≤ r) (r1 : r ≤ 9223372036854775807) (s0 : -9223372036854775808 ≤ s) (s1 : s ≤ 9223372036854775807) (ht : Tab w) :
    Calls Tryd.prog 6 #[.int .i64 p, .int .i64 q, .int .i64 r, .int .i64 s] w fun e w' => e = .returned (.bool true) ∧ Below w.heap.size w w' := by
  by_cases hq : 0 < q
  · by_cases hv : p < p.tdiv q * q
    · exact order_dec p q r s w p0 p1 q0 q1 r0 r1 s0 s1 ht hq hv
    · exact order_ex p q r s w p0 p1 q0 q1 r0 r1 s0 s1 ht hq hv
  · exact order_np p q r s w p0 p1 q0 q1 r0 r1 s0 s1 ht (by omega)
end Go.Proofs.YtigokanoflkinaaDoor
