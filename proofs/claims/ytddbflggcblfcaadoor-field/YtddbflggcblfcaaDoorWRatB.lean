/- ratio.Add, Subtract, Multiply, Divide: the sum, the difference, the product and the quotient of any two fractions. (Laid by mkratb.py.) -/
import Derived.Test.YtddbflggcblfcaaDoorWRatA
import Derived.Test.YtddbflggcblfcaaDoorWSub
namespace Go.Proofs.YtddbflggcblfcaaDoor
set_option linter.unusedSimpArgs false
set_option linter.unusedVariables false
open Go.RowKit Por

theorem prod_len {a b n m : Nat} (ha : (limbs a).length = n) (hb : (limbs b).length = m) : (limbs (a * b)).length ≤ n + m := by
  have := len_mul a b; omega
theorem sum_len {a b k : Nat} (ha : (limbs a).length ≤ k) (hb : (limbs b).length ≤ k) : (limbs (a + b)).length ≤ k + 1 := by
  have := len_add a b; omega
theorem diff_len {a b k : Nat} (ha : (limbs a).length ≤ k) : (limbs (a - b)).length ≤ k := Nat.le_trans (len_mono (Nat.sub_le a b)) ha

set_option maxHeartbeats 2000000 in
set_option maxRecDepth 20000 in
theorem radd_eq (ao bo co eo : Option Addr) (n capa m capb p capc q capd : Nat) (x y : Rat) (w : World) (h1 : Row w ao n capa (limbs x.num.natAbs)) (h2 : Row w bo m capb (limbs x.den)) (h3 : Row w co p capc (limbs y.num.natAbs)) (h4 : Row w eo q capd (limbs y.den)) (b1 : n ≤ 10000) (b2 : m ≤ 10000) (b3 : p ≤ 10000) (b4 : q ≤ 10000) (he : negB x = negB y) :
    Calls Tryd.prog 51 #[.agg #[.bool (negB x), .slice ao n capa, .slice bo m capb], .agg #[.bool (negB y), .slice co p capc, .slice eo q capd]] w fun e w' => ∃ v, e = .returned v ∧ Frac w' v (x + y) ∧ Below w.heap.size w w' := by
  have hs : (negB x == negB y) = true := by rw [he]; exact beq_self_eq_true _
  have he' := hid he
  clear he
  obtain ⟨c1, c2, c3, c5⟩ := boxes3 w #[.bool (negB x), .slice ao n capa, .slice bo m capb] #[.bool (negB y), .slice co p capc, .slice eo q capd] #[.bool false, .slice none 0 0, .slice none 0 0] 76 76 76
  have R0_0 := hid (h1.below c5)
  have len0 := h1.len
  have R1_0 := hid (h2.below c5)
  have len1 := h2.len
  have R2_0 := hid (h3.below c5)
  have len2 := h3.len
  have R3_0 := hid (h4.below c5)
  have len3 := h4.len
  have XA_0 := hid c1
  have XB_0 := hid c2
  have XR_0 := hid c3
  have HB_0 := hid c5
  clear h1 h2 h3 h4 c1 c2 c3 c5
  go_enter Tryd.func51, Tryd.ntmps51
  go_wp2_with fail
  refine (mul_any ao eo n capa q capd (x.num.natAbs) (y.den) _ R0_0.out R3_0.out (by omega)).mono ?_
  rintro e0 w0 ⟨v0, rfl, ⟨lo, ln, lc, rfl, hr0⟩, hb0⟩
  have XA_1 := hid (XA_0.out.keep hb0)
  have XB_1 := hid (XB_0.out.keep hb0)
  have XR_1 := hid (XR_0.out.keep hb0)
  have R0_1 := hid (R0_0.out.below hb0)
  have R1_1 := hid (R1_0.out.below hb0)
  have R2_1 := hid (R2_0.out.below hb0)
  have R3_1 := hid (R3_0.out.below hb0)
  have HB_1 : Hid (Below w.heap.size w w0) := HB_0.out.trans (hb0.mono HB_0.out.size)
  have ltA := XA_1.out.lt
  have cA0 := XA_1.out.cell 0 _ rfl
  have cA1 := XA_1.out.cell 1 _ rfl
  have cA2 := XA_1.out.cell 2 _ rfl
  have ltB := XB_1.out.lt
  have cB0 := XB_1.out.cell 0 _ rfl
  have cB1 := XB_1.out.cell 1 _ rfl
  have cB2 := XB_1.out.cell 2 _ rfl
  have ltR := XR_1.out.lt
  have cR0 := XR_1.out.cell 0 _ rfl
  have zR0 := XR_1.out.frozen 0
  have cR1 := XR_1.out.cell 1 _ rfl
  have zR1 := XR_1.out.frozen 1
  have cR2 := XR_1.out.cell 2 _ rfl
  have zR2 := XR_1.out.frozen 2
  have Rl_1 := hid hr0
  have lenl := hr0.len
  have bdl : ln ≤ 20000 := by rw [← lenl]; exact Nat.le_trans (prod_len len0 len3) (by omega)
  clear hb0 hr0
  have YA_1 := hid (bx_past XA_1.out (.cells #[.slice lo ln lc] 74))
  have YB_1 := hid (bx_past XB_1.out (.cells #[.slice lo ln lc] 74))
  have YR_1 := hid (bx_past XR_1.out (.cells #[.slice lo ln lc] 74))
  have Yl_1 := hid (bx_new w0 #[.slice lo ln lc] 74)
  have Q0_1 := hid (R0_1.out.alloc (.cells #[.slice lo ln lc] 74))
  have Q1_1 := hid (R1_1.out.alloc (.cells #[.slice lo ln lc] 74))
  have Q2_1 := hid (R2_1.out.alloc (.cells #[.slice lo ln lc] 74))
  have Q3_1 := hid (R3_1.out.alloc (.cells #[.slice lo ln lc] 74))
  have Ql_1 := hid (Rl_1.out.alloc (.cells #[.slice lo ln lc] 74))
  have HC_1 : Hid (Below w.heap.size w (w0.alloc (.cells #[.slice lo ln lc] 74))) := HB_1.out.alloc HB_1.out.size (.cells #[.slice lo ln lc] 74)
  go_wp2_with fail
  refine (mul_any co bo p capc m capb (y.num.natAbs) (x.den) _ Q2_1.out Q1_1.out (by omega)).mono ?_
  rintro e1 w1 ⟨v1, rfl, ⟨ro, rn, rc, rfl, hr1⟩, hb1⟩
  have XA_2 := hid (YA_1.out.keep hb1)
  have XB_2 := hid (YB_1.out.keep hb1)
  have XR_2 := hid (YR_1.out.keep hb1)
  have Xl_2 := hid (Yl_1.out.keep hb1)
  have R0_2 := hid (Q0_1.out.below hb1)
  have R1_2 := hid (Q1_1.out.below hb1)
  have R2_2 := hid (Q2_1.out.below hb1)
  have R3_2 := hid (Q3_1.out.below hb1)
  have Rl_2 := hid (Ql_1.out.below hb1)
  have HB_2 : Hid (Below w.heap.size w w1) := HC_1.out.trans (hb1.mono HC_1.out.size)
  clear ltA cA0 cA1 cA2 ltB cB0 cB1 cB2 ltR cR0 zR0 cR1 zR1 cR2 zR2
  have ltA := XA_2.out.lt
  have cA0 := XA_2.out.cell 0 _ rfl
  have cA1 := XA_2.out.cell 1 _ rfl
  have cA2 := XA_2.out.cell 2 _ rfl
  have ltB := XB_2.out.lt
  have cB0 := XB_2.out.cell 0 _ rfl
  have cB1 := XB_2.out.cell 1 _ rfl
  have cB2 := XB_2.out.cell 2 _ rfl
  have ltR := XR_2.out.lt
  have cR0 := XR_2.out.cell 0 _ rfl
  have zR0 := XR_2.out.frozen 0
  have cR1 := XR_2.out.cell 1 _ rfl
  have zR1 := XR_2.out.frozen 1
  have cR2 := XR_2.out.cell 2 _ rfl
  have zR2 := XR_2.out.frozen 2
  have ltl := Xl_2.out.lt
  have cl0 := Xl_2.out.cell 0 _ rfl
  have Rr_2 := hid hr1
  have lenr := hr1.len
  have bdr : rn ≤ 20000 := by rw [← lenr]; exact Nat.le_trans (prod_len len2 len1) (by omega)
  clear hb1 hr1
  have YA_2 := hid (bx_past XA_2.out (.cells #[.slice ro rn rc] 74))
  have YB_2 := hid (bx_past XB_2.out (.cells #[.slice ro rn rc] 74))
  have YR_2 := hid (bx_past XR_2.out (.cells #[.slice ro rn rc] 74))
  have Yl_2 := hid (bx_past Xl_2.out (.cells #[.slice ro rn rc] 74))
  have Yr_2 := hid (bx_new w1 #[.slice ro rn rc] 74)
  have Q0_2 := hid (R0_2.out.alloc (.cells #[.slice ro rn rc] 74))
  have Q1_2 := hid (R1_2.out.alloc (.cells #[.slice ro rn rc] 74))
  have Q2_2 := hid (R2_2.out.alloc (.cells #[.slice ro rn rc] 74))
  have Q3_2 := hid (R3_2.out.alloc (.cells #[.slice ro rn rc] 74))
  have Ql_2 := hid (Rl_2.out.alloc (.cells #[.slice ro rn rc] 74))
  have Qr_2 := hid (Rr_2.out.alloc (.cells #[.slice ro rn rc] 74))
  have HC_2 : Hid (Below w.heap.size w (w1.alloc (.cells #[.slice ro rn rc] 74))) := HB_2.out.alloc HB_2.out.size (.cells #[.slice ro rn rc] 74)
  go_wp2_with fail
  refine (mul_any bo eo m capb q capd (x.den) (y.den) _ Q1_2.out Q3_2.out (by omega)).mono ?_
  rintro e2 w2 ⟨v2, rfl, ⟨ko, kn, kc, rfl, hr2⟩, hb2⟩
  have XA_3 := hid (YA_2.out.keep hb2)
  have XB_3 := hid (YB_2.out.keep hb2)
  have XR_3 := hid (YR_2.out.keep hb2)
  have Xl_3 := hid (Yl_2.out.keep hb2)
  have Xr_3 := hid (Yr_2.out.keep hb2)
  have R0_3 := hid (Q0_2.out.below hb2)
  have R1_3 := hid (Q1_2.out.below hb2)
  have R2_3 := hid (Q2_2.out.below hb2)
  have R3_3 := hid (Q3_2.out.below hb2)
  have Rl_3 := hid (Ql_2.out.below hb2)
  have Rr_3 := hid (Qr_2.out.below hb2)
  have HB_3 : Hid (Below w.heap.size w w2) := HC_2.out.trans (hb2.mono HC_2.out.size)
  clear ltA cA0 cA1 cA2 ltB cB0 cB1 cB2 ltR cR0 zR0 cR1 zR1 cR2 zR2 ltl cl0
  have ltA := XA_3.out.lt
  have cA0 := XA_3.out.cell 0 _ rfl
  have cA1 := XA_3.out.cell 1 _ rfl
  have cA2 := XA_3.out.cell 2 _ rfl
  have ltB := XB_3.out.lt
  have cB0 := XB_3.out.cell 0 _ rfl
  have cB1 := XB_3.out.cell 1 _ rfl
  have cB2 := XB_3.out.cell 2 _ rfl
  have ltR := XR_3.out.lt
  have cR0 := XR_3.out.cell 0 _ rfl
  have zR0 := XR_3.out.frozen 0
  have cR1 := XR_3.out.cell 1 _ rfl
  have zR1 := XR_3.out.frozen 1
  have cR2 := XR_3.out.cell 2 _ rfl
  have zR2 := XR_3.out.frozen 2
  have ltl := Xl_3.out.lt
  have cl0 := Xl_3.out.cell 0 _ rfl
  have ltr := Xr_3.out.lt
  have cr0 := Xr_3.out.cell 0 _ rfl
  have Rk_3 := hid hr2
  have lenk := hr2.len
  have bdk : kn ≤ 20000 := by rw [← lenk]; exact Nat.le_trans (prod_len len1 len3) (by omega)
  clear hb2 hr2
  have YA_3 := hid (bx_past XA_3.out (.cells #[.slice ko kn kc] 74))
  have YB_3 := hid (bx_past XB_3.out (.cells #[.slice ko kn kc] 74))
  have YR_3 := hid (bx_past XR_3.out (.cells #[.slice ko kn kc] 74))
  have Yl_3 := hid (bx_past Xl_3.out (.cells #[.slice ko kn kc] 74))
  have Yr_3 := hid (bx_past Xr_3.out (.cells #[.slice ko kn kc] 74))
  have Yk_3 := hid (bx_new w2 #[.slice ko kn kc] 74)
  have Q0_3 := hid (R0_3.out.alloc (.cells #[.slice ko kn kc] 74))
  have Q1_3 := hid (R1_3.out.alloc (.cells #[.slice ko kn kc] 74))
  have Q2_3 := hid (R2_3.out.alloc (.cells #[.slice ko kn kc] 74))
  have Q3_3 := hid (R3_3.out.alloc (.cells #[.slice ko kn kc] 74))
  have Ql_3 := hid (Rl_3.out.alloc (.cells #[.slice ko kn kc] 74))
  have Qr_3 := hid (Rr_3.out.alloc (.cells #[.slice ko kn kc] 74))
  have Qk_3 := hid (Rk_3.out.alloc (.cells #[.slice ko kn kc] 74))
  have HC_3 : Hid (Below w.heap.size w (w2.alloc (.cells #[.slice ko kn kc] 74))) := HB_3.out.alloc HB_3.out.size (.cells #[.slice ko kn kc] 74)
  go_wp2_with fail
  refine (add_any lo ro ln lc rn rc (x.num.natAbs * y.den) (y.num.natAbs * x.den) _ Ql_3.out Qr_3.out (by omega) (by omega)).mono ?_
  rintro e3 w3 ⟨v3, rfl, ⟨so, sn, sc, rfl, hr3⟩, hb3⟩
  have XA_4 := hid (YA_3.out.keep hb3)
  have XB_4 := hid (YB_3.out.keep hb3)
  have XR_4 := hid (YR_3.out.keep hb3)
  have Xl_4 := hid (Yl_3.out.keep hb3)
  have Xr_4 := hid (Yr_3.out.keep hb3)
  have Xk_4 := hid (Yk_3.out.keep hb3)
  have R0_4 := hid (Q0_3.out.below hb3)
  have R1_4 := hid (Q1_3.out.below hb3)
  have R2_4 := hid (Q2_3.out.below hb3)
  have R3_4 := hid (Q3_3.out.below hb3)
  have Rl_4 := hid (Ql_3.out.below hb3)
  have Rr_4 := hid (Qr_3.out.below hb3)
  have Rk_4 := hid (Qk_3.out.below hb3)
  have HB_4 : Hid (Below w.heap.size w w3) := HC_3.out.trans (hb3.mono HC_3.out.size)
  clear ltA cA0 cA1 cA2 ltB cB0 cB1 cB2 ltR cR0 zR0 cR1 zR1 cR2 zR2 ltl cl0 ltr cr0
  have ltA := XA_4.out.lt
  have cA0 := XA_4.out.cell 0 _ rfl
  have cA1 := XA_4.out.cell 1 _ rfl
  have cA2 := XA_4.out.cell 2 _ rfl
  have ltB := XB_4.out.lt
  have cB0 := XB_4.out.cell 0 _ rfl
  have cB1 := XB_4.out.cell 1 _ rfl
  have cB2 := XB_4.out.cell 2 _ rfl
  have ltR := XR_4.out.lt
  have cR0 := XR_4.out.cell 0 _ rfl
  have zR0 := XR_4.out.frozen 0
  have cR1 := XR_4.out.cell 1 _ rfl
  have zR1 := XR_4.out.frozen 1
  have cR2 := XR_4.out.cell 2 _ rfl
  have zR2 := XR_4.out.frozen 2
  have ltl := Xl_4.out.lt
  have cl0 := Xl_4.out.cell 0 _ rfl
  have ltr := Xr_4.out.lt
  have cr0 := Xr_4.out.cell 0 _ rfl
  have ltk := Xk_4.out.lt
  have ck0 := Xk_4.out.cell 0 _ rfl
  have Rs_4 := hid hr3
  have lens := hr3.len
  have bds : sn ≤ 20001 := by rw [← lens]; exact sum_len (by omega) (by omega)
  clear hb3 hr3
  have YA_4 := hid (bx_past XA_4.out (.cells #[.slice so sn sc] 74))
  have YB_4 := hid (bx_past XB_4.out (.cells #[.slice so sn sc] 74))
  have YR_4 := hid (bx_past XR_4.out (.cells #[.slice so sn sc] 74))
  have Yl_4 := hid (bx_past Xl_4.out (.cells #[.slice so sn sc] 74))
  have Yr_4 := hid (bx_past Xr_4.out (.cells #[.slice so sn sc] 74))
  have Yk_4 := hid (bx_past Xk_4.out (.cells #[.slice so sn sc] 74))
  have Ys_4 := hid (bx_new w3 #[.slice so sn sc] 74)
  have Q0_4 := hid (R0_4.out.alloc (.cells #[.slice so sn sc] 74))
  have Q1_4 := hid (R1_4.out.alloc (.cells #[.slice so sn sc] 74))
  have Q2_4 := hid (R2_4.out.alloc (.cells #[.slice so sn sc] 74))
  have Q3_4 := hid (R3_4.out.alloc (.cells #[.slice so sn sc] 74))
  have Ql_4 := hid (Rl_4.out.alloc (.cells #[.slice so sn sc] 74))
  have Qr_4 := hid (Rr_4.out.alloc (.cells #[.slice so sn sc] 74))
  have Qk_4 := hid (Rk_4.out.alloc (.cells #[.slice so sn sc] 74))
  have Qs_4 := hid (Rs_4.out.alloc (.cells #[.slice so sn sc] 74))
  have HC_4 : Hid (Below w.heap.size w (w3.alloc (.cells #[.slice so sn sc] 74))) := HB_4.out.alloc HB_4.out.size (.cells #[.slice so sn sc] 74)
  go_wp2_with fail
  refine (lowest_any (negB x) so ko sn sc kn kc (x.num.natAbs * y.den + y.num.natAbs * x.den) (x.den * y.den) _ Qs_4.out Qk_4.out (by omega) (by omega) (Nat.mul_ne_zero x.den_nz y.den_nz)).mono ?_
  rintro e4 w4 ⟨v4, rfl, ⟨go, gn, gc, ho, hn, hc, rfl, hg, hh⟩, hb4⟩
  have XA_5 := hid (YA_4.out.keep hb4)
  have XB_5 := hid (YB_4.out.keep hb4)
  have XR_5 := hid (YR_4.out.keep hb4)
  have Xl_5 := hid (Yl_4.out.keep hb4)
  have Xr_5 := hid (Yr_4.out.keep hb4)
  have Xk_5 := hid (Yk_4.out.keep hb4)
  have Xs_5 := hid (Ys_4.out.keep hb4)
  have R0_5 := hid (Q0_4.out.below hb4)
  have R1_5 := hid (Q1_4.out.below hb4)
  have R2_5 := hid (Q2_4.out.below hb4)
  have R3_5 := hid (Q3_4.out.below hb4)
  have Rl_5 := hid (Ql_4.out.below hb4)
  have Rr_5 := hid (Qr_4.out.below hb4)
  have Rk_5 := hid (Qk_4.out.below hb4)
  have Rs_5 := hid (Qs_4.out.below hb4)
  have HB_5 : Hid (Below w.heap.size w w4) := HC_4.out.trans (hb4.mono HC_4.out.size)
  clear ltA cA0 cA1 cA2 ltB cB0 cB1 cB2 ltR cR0 zR0 cR1 zR1 cR2 zR2 ltl cl0 ltr cr0 ltk ck0
  have ltA := XA_5.out.lt
  have cA0 := XA_5.out.cell 0 _ rfl
  have cA1 := XA_5.out.cell 1 _ rfl
  have cA2 := XA_5.out.cell 2 _ rfl
  have ltB := XB_5.out.lt
  have cB0 := XB_5.out.cell 0 _ rfl
  have cB1 := XB_5.out.cell 1 _ rfl
  have cB2 := XB_5.out.cell 2 _ rfl
  have ltR := XR_5.out.lt
  have cR0 := XR_5.out.cell 0 _ rfl
  have zR0 := XR_5.out.frozen 0
  have cR1 := XR_5.out.cell 1 _ rfl
  have zR1 := XR_5.out.frozen 1
  have cR2 := XR_5.out.cell 2 _ rfl
  have zR2 := XR_5.out.frozen 2
  have ltl := Xl_5.out.lt
  have cl0 := Xl_5.out.cell 0 _ rfl
  have ltr := Xr_5.out.lt
  have cr0 := Xr_5.out.cell 0 _ rfl
  have ltk := Xk_5.out.lt
  have ck0 := Xk_5.out.cell 0 _ rfl
  have lts := Xs_5.out.lt
  have cs0 := Xs_5.out.cell 0 _ rfl
  have HG := hid hg
  have HH := hid hh
  clear hb4 hg hh
  go_wp2
  have Z := XR_5.out.put3 (.bool (negB (mkRat (sg (negB x) (x.num.natAbs * y.den + y.num.natAbs * x.den)) (x.den * y.den)))) (.slice go gn gc) (.slice ho hn hc)
  have z0 := Z.cell 0 _ rfl
  have z1 := Z.cell 1 _ rfl
  have z2 := Z.cell 2 _ rfl
  unfold wput3 at z0 z1 z2
  refine bodyPost_ret (v := .agg #[.bool (negB (mkRat (sg (negB x) (x.num.natAbs * y.den + y.num.natAbs * x.den)) (x.den * y.den))), .slice go gn gc, .slice ho hn hc]) (by simp [results, Tryd.results51, go_sem, z0, z1, z2]) rfl ⟨_, rfl, ?_, below_put3 HB_5.out (by omega) _ _ _⟩
  rw [add_sg, ← he'.out, sg_same]
  exact ⟨go, gn, gc, ho, hn, hc, rfl, HG.out.put3 XR_5.out (by decide) _ _ _, HH.out.put3 XR_5.out (by decide) _ _ _⟩

set_option maxHeartbeats 2000000 in
set_option maxRecDepth 20000 in
theorem radd_lt (ao bo co eo : Option Addr) (n capa m capb p capc q capd : Nat) (x y : Rat) (w : World) (h1 : Row w ao n capa (limbs x.num.natAbs)) (h2 : Row w bo m capb (limbs x.den)) (h3 : Row w co p capc (limbs y.num.natAbs)) (h4 : Row w eo q capd (limbs y.den)) (b1 : n ≤ 10000) (b2 : m ≤ 10000) (b3 : p ≤ 10000) (b4 : q ≤ 10000) (hne : negB x ≠ negB y) (hlt : (x.num.natAbs * y.den < y.num.natAbs * x.den)) :
    Calls Tryd.prog 51 #[.agg #[.bool (negB x), .slice ao n capa, .slice bo m capb], .agg #[.bool (negB y), .slice co p capc, .slice eo q capd]] w fun e w' => ∃ v, e = .returned v ∧ Frac w' v (x + y) ∧ Below w.heap.size w w' := by
  have hs : (negB x == negB y) = false := by rw [beq_eq_false_iff_ne]; exact hne
  have hc : Hid (cmp3 ((x.num.natAbs * y.den : Nat) : Int) ((y.num.natAbs * x.den : Nat) : Int) = -1) := by show _ = _; unfold cmp3; rw [if_pos (by omega)]
  have hne' := hid hne
  have hlt' := hid hlt
  clear hne hlt
  obtain ⟨c1, c2, c3, c5⟩ := boxes3 w #[.bool (negB x), .slice ao n capa, .slice bo m capb] #[.bool (negB y), .slice co p capc, .slice eo q capd] #[.bool false, .slice none 0 0, .slice none 0 0] 76 76 76
  have R0_0 := hid (h1.below c5)
  have len0 := h1.len
  have R1_0 := hid (h2.below c5)
  have len1 := h2.len
  have R2_0 := hid (h3.below c5)
  have len2 := h3.len
  have R3_0 := hid (h4.below c5)
  have len3 := h4.len
  have XA_0 := hid c1
  have XB_0 := hid c2
  have XR_0 := hid c3
  have HB_0 := hid c5
  clear h1 h2 h3 h4 c1 c2 c3 c5
  go_enter Tryd.func51, Tryd.ntmps51
  go_wp2_with fail
  refine (mul_any ao eo n capa q capd (x.num.natAbs) (y.den) _ R0_0.out R3_0.out (by omega)).mono ?_
  rintro e0 w0 ⟨v0, rfl, ⟨lo, ln, lc, rfl, hr0⟩, hb0⟩
  have XA_1 := hid (XA_0.out.keep hb0)
  have XB_1 := hid (XB_0.out.keep hb0)
  have XR_1 := hid (XR_0.out.keep hb0)
  have R0_1 := hid (R0_0.out.below hb0)
  have R1_1 := hid (R1_0.out.below hb0)
  have R2_1 := hid (R2_0.out.below hb0)
  have R3_1 := hid (R3_0.out.below hb0)
  have HB_1 : Hid (Below w.heap.size w w0) := HB_0.out.trans (hb0.mono HB_0.out.size)
  have ltA := XA_1.out.lt
  have cA0 := XA_1.out.cell 0 _ rfl
  have cA1 := XA_1.out.cell 1 _ rfl
  have cA2 := XA_1.out.cell 2 _ rfl
  have ltB := XB_1.out.lt
  have cB0 := XB_1.out.cell 0 _ rfl
  have cB1 := XB_1.out.cell 1 _ rfl
  have cB2 := XB_1.out.cell 2 _ rfl
  have ltR := XR_1.out.lt
  have cR0 := XR_1.out.cell 0 _ rfl
  have zR0 := XR_1.out.frozen 0
  have cR1 := XR_1.out.cell 1 _ rfl
  have zR1 := XR_1.out.frozen 1
  have cR2 := XR_1.out.cell 2 _ rfl
  have zR2 := XR_1.out.frozen 2
  have Rl_1 := hid hr0
  have lenl := hr0.len
  have bdl : ln ≤ 20000 := by rw [← lenl]; exact Nat.le_trans (prod_len len0 len3) (by omega)
  clear hb0 hr0
  have YA_1 := hid (bx_past XA_1.out (.cells #[.slice lo ln lc] 74))
  have YB_1 := hid (bx_past XB_1.out (.cells #[.slice lo ln lc] 74))
  have YR_1 := hid (bx_past XR_1.out (.cells #[.slice lo ln lc] 74))
  have Yl_1 := hid (bx_new w0 #[.slice lo ln lc] 74)
  have Q0_1 := hid (R0_1.out.alloc (.cells #[.slice lo ln lc] 74))
  have Q1_1 := hid (R1_1.out.alloc (.cells #[.slice lo ln lc] 74))
  have Q2_1 := hid (R2_1.out.alloc (.cells #[.slice lo ln lc] 74))
  have Q3_1 := hid (R3_1.out.alloc (.cells #[.slice lo ln lc] 74))
  have Ql_1 := hid (Rl_1.out.alloc (.cells #[.slice lo ln lc] 74))
  have HC_1 : Hid (Below w.heap.size w (w0.alloc (.cells #[.slice lo ln lc] 74))) := HB_1.out.alloc HB_1.out.size (.cells #[.slice lo ln lc] 74)
  go_wp2_with fail
  refine (mul_any co bo p capc m capb (y.num.natAbs) (x.den) _ Q2_1.out Q1_1.out (by omega)).mono ?_
  rintro e1 w1 ⟨v1, rfl, ⟨ro, rn, rc, rfl, hr1⟩, hb1⟩
  have XA_2 := hid (YA_1.out.keep hb1)
  have XB_2 := hid (YB_1.out.keep hb1)
  have XR_2 := hid (YR_1.out.keep hb1)
  have Xl_2 := hid (Yl_1.out.keep hb1)
  have R0_2 := hid (Q0_1.out.below hb1)
  have R1_2 := hid (Q1_1.out.below hb1)
  have R2_2 := hid (Q2_1.out.below hb1)
  have R3_2 := hid (Q3_1.out.below hb1)
  have Rl_2 := hid (Ql_1.out.below hb1)
  have HB_2 : Hid (Below w.heap.size w w1) := HC_1.out.trans (hb1.mono HC_1.out.size)
  clear ltA cA0 cA1 cA2 ltB cB0 cB1 cB2 ltR cR0 zR0 cR1 zR1 cR2 zR2
  have ltA := XA_2.out.lt
  have cA0 := XA_2.out.cell 0 _ rfl
  have cA1 := XA_2.out.cell 1 _ rfl
  have cA2 := XA_2.out.cell 2 _ rfl
  have ltB := XB_2.out.lt
  have cB0 := XB_2.out.cell 0 _ rfl
  have cB1 := XB_2.out.cell 1 _ rfl
  have cB2 := XB_2.out.cell 2 _ rfl
  have ltR := XR_2.out.lt
  have cR0 := XR_2.out.cell 0 _ rfl
  have zR0 := XR_2.out.frozen 0
  have cR1 := XR_2.out.cell 1 _ rfl
  have zR1 := XR_2.out.frozen 1
  have cR2 := XR_2.out.cell 2 _ rfl
  have zR2 := XR_2.out.frozen 2
  have ltl := Xl_2.out.lt
  have cl0 := Xl_2.out.cell 0 _ rfl
  have Rr_2 := hid hr1
  have lenr := hr1.len
  have bdr : rn ≤ 20000 := by rw [← lenr]; exact Nat.le_trans (prod_len len2 len1) (by omega)
  clear hb1 hr1
  have YA_2 := hid (bx_past XA_2.out (.cells #[.slice ro rn rc] 74))
  have YB_2 := hid (bx_past XB_2.out (.cells #[.slice ro rn rc] 74))
  have YR_2 := hid (bx_past XR_2.out (.cells #[.slice ro rn rc] 74))
  have Yl_2 := hid (bx_past Xl_2.out (.cells #[.slice ro rn rc] 74))
  have Yr_2 := hid (bx_new w1 #[.slice ro rn rc] 74)
  have Q0_2 := hid (R0_2.out.alloc (.cells #[.slice ro rn rc] 74))
  have Q1_2 := hid (R1_2.out.alloc (.cells #[.slice ro rn rc] 74))
  have Q2_2 := hid (R2_2.out.alloc (.cells #[.slice ro rn rc] 74))
  have Q3_2 := hid (R3_2.out.alloc (.cells #[.slice ro rn rc] 74))
  have Ql_2 := hid (Rl_2.out.alloc (.cells #[.slice ro rn rc] 74))
  have Qr_2 := hid (Rr_2.out.alloc (.cells #[.slice ro rn rc] 74))
  have HC_2 : Hid (Below w.heap.size w (w1.alloc (.cells #[.slice ro rn rc] 74))) := HB_2.out.alloc HB_2.out.size (.cells #[.slice ro rn rc] 74)
  go_wp2_with fail
  refine (mul_any bo eo m capb q capd (x.den) (y.den) _ Q1_2.out Q3_2.out (by omega)).mono ?_
  rintro e2 w2 ⟨v2, rfl, ⟨ko, kn, kc, rfl, hr2⟩, hb2⟩
  have XA_3 := hid (YA_2.out.keep hb2)
  have XB_3 := hid (YB_2.out.keep hb2)
  have XR_3 := hid (YR_2.out.keep hb2)
  have Xl_3 := hid (Yl_2.out.keep hb2)
  have Xr_3 := hid (Yr_2.out.keep hb2)
  have R0_3 := hid (Q0_2.out.below hb2)
  have R1_3 := hid (Q1_2.out.below hb2)
  have R2_3 := hid (Q2_2.out.below hb2)
  have R3_3 := hid (Q3_2.out.below hb2)
  have Rl_3 := hid (Ql_2.out.below hb2)
  have Rr_3 := hid (Qr_2.out.below hb2)
  have HB_3 : Hid (Below w.heap.size w w2) := HC_2.out.trans (hb2.mono HC_2.out.size)
  clear ltA cA0 cA1 cA2 ltB cB0 cB1 cB2 ltR cR0 zR0 cR1 zR1 cR2 zR2 ltl cl0
  have ltA := XA_3.out.lt
  have cA0 := XA_3.out.cell 0 _ rfl
  have cA1 := XA_3.out.cell 1 _ rfl
  have cA2 := XA_3.out.cell 2 _ rfl
  have ltB := XB_3.out.lt
  have cB0 := XB_3.out.cell 0 _ rfl
  have cB1 := XB_3.out.cell 1 _ rfl
  have cB2 := XB_3.out.cell 2 _ rfl
  have ltR := XR_3.out.lt
  have cR0 := XR_3.out.cell 0 _ rfl
  have zR0 := XR_3.out.frozen 0
  have cR1 := XR_3.out.cell 1 _ rfl
  have zR1 := XR_3.out.frozen 1
  have cR2 := XR_3.out.cell 2 _ rfl
  have zR2 := XR_3.out.frozen 2
  have ltl := Xl_3.out.lt
  have cl0 := Xl_3.out.cell 0 _ rfl
  have ltr := Xr_3.out.lt
  have cr0 := Xr_3.out.cell 0 _ rfl
  have Rk_3 := hid hr2
  have lenk := hr2.len
  have bdk : kn ≤ 20000 := by rw [← lenk]; exact Nat.le_trans (prod_len len1 len3) (by omega)
  clear hb2 hr2
  have YA_3 := hid (bx_past XA_3.out (.cells #[.slice ko kn kc] 74))
  have YB_3 := hid (bx_past XB_3.out (.cells #[.slice ko kn kc] 74))
  have YR_3 := hid (bx_past XR_3.out (.cells #[.slice ko kn kc] 74))
  have Yl_3 := hid (bx_past Xl_3.out (.cells #[.slice ko kn kc] 74))
  have Yr_3 := hid (bx_past Xr_3.out (.cells #[.slice ko kn kc] 74))
  have Yk_3 := hid (bx_new w2 #[.slice ko kn kc] 74)
  have Q0_3 := hid (R0_3.out.alloc (.cells #[.slice ko kn kc] 74))
  have Q1_3 := hid (R1_3.out.alloc (.cells #[.slice ko kn kc] 74))
  have Q2_3 := hid (R2_3.out.alloc (.cells #[.slice ko kn kc] 74))
  have Q3_3 := hid (R3_3.out.alloc (.cells #[.slice ko kn kc] 74))
  have Ql_3 := hid (Rl_3.out.alloc (.cells #[.slice ko kn kc] 74))
  have Qr_3 := hid (Rr_3.out.alloc (.cells #[.slice ko kn kc] 74))
  have Qk_3 := hid (Rk_3.out.alloc (.cells #[.slice ko kn kc] 74))
  have HC_3 : Hid (Below w.heap.size w (w2.alloc (.cells #[.slice ko kn kc] 74))) := HB_3.out.alloc HB_3.out.size (.cells #[.slice ko kn kc] 74)
  go_wp2_with fail
  refine (compare_any lo ro ln lc rn rc (x.num.natAbs * y.den) (y.num.natAbs * x.den) _ Ql_3.out Qr_3.out (by omega) (by omega)).mono ?_
  rintro e3 w3 ⟨rfl, hb3⟩
  have XA_4 := hid (YA_3.out.keep hb3)
  have XB_4 := hid (YB_3.out.keep hb3)
  have XR_4 := hid (YR_3.out.keep hb3)
  have Xl_4 := hid (Yl_3.out.keep hb3)
  have Xr_4 := hid (Yr_3.out.keep hb3)
  have Xk_4 := hid (Yk_3.out.keep hb3)
  have R0_4 := hid (Q0_3.out.below hb3)
  have R1_4 := hid (Q1_3.out.below hb3)
  have R2_4 := hid (Q2_3.out.below hb3)
  have R3_4 := hid (Q3_3.out.below hb3)
  have Rl_4 := hid (Ql_3.out.below hb3)
  have Rr_4 := hid (Qr_3.out.below hb3)
  have Rk_4 := hid (Qk_3.out.below hb3)
  have HB_4 : Hid (Below w.heap.size w w3) := HC_3.out.trans (hb3.mono HC_3.out.size)
  clear ltA cA0 cA1 cA2 ltB cB0 cB1 cB2 ltR cR0 zR0 cR1 zR1 cR2 zR2 ltl cl0 ltr cr0
  have ltA := XA_4.out.lt
  have cA0 := XA_4.out.cell 0 _ rfl
  have cA1 := XA_4.out.cell 1 _ rfl
  have cA2 := XA_4.out.cell 2 _ rfl
  have ltB := XB_4.out.lt
  have cB0 := XB_4.out.cell 0 _ rfl
  have cB1 := XB_4.out.cell 1 _ rfl
  have cB2 := XB_4.out.cell 2 _ rfl
  have ltR := XR_4.out.lt
  have cR0 := XR_4.out.cell 0 _ rfl
  have zR0 := XR_4.out.frozen 0
  have cR1 := XR_4.out.cell 1 _ rfl
  have zR1 := XR_4.out.frozen 1
  have cR2 := XR_4.out.cell 2 _ rfl
  have zR2 := XR_4.out.frozen 2
  have ltl := Xl_4.out.lt
  have cl0 := Xl_4.out.cell 0 _ rfl
  have ltr := Xr_4.out.lt
  have cr0 := Xr_4.out.cell 0 _ rfl
  have ltk := Xk_4.out.lt
  have ck0 := Xk_4.out.cell 0 _ rfl
  rw [hc.out]
  clear hb3
  go_wp2_with fail
  refine (sub_any ro lo rn rc ln lc (y.num.natAbs * x.den) (x.num.natAbs * y.den) _ Rr_4.out Rl_4.out (by omega) (by omega)).mono ?_
  rintro e4 w4 ⟨v4, rfl, ⟨so, sn, sc, rfl, hr4⟩, hb4⟩
  have XA_5 := hid (XA_4.out.keep hb4)
  have XB_5 := hid (XB_4.out.keep hb4)
  have XR_5 := hid (XR_4.out.keep hb4)
  have Xl_5 := hid (Xl_4.out.keep hb4)
  have Xr_5 := hid (Xr_4.out.keep hb4)
  have Xk_5 := hid (Xk_4.out.keep hb4)
  have R0_5 := hid (R0_4.out.below hb4)
  have R1_5 := hid (R1_4.out.below hb4)
  have R2_5 := hid (R2_4.out.below hb4)
  have R3_5 := hid (R3_4.out.below hb4)
  have Rl_5 := hid (Rl_4.out.below hb4)
  have Rr_5 := hid (Rr_4.out.below hb4)
  have Rk_5 := hid (Rk_4.out.below hb4)
  have HB_5 : Hid (Below w.heap.size w w4) := HB_4.out.trans (hb4.mono HB_4.out.size)
  clear ltA cA0 cA1 cA2 ltB cB0 cB1 cB2 ltR cR0 zR0 cR1 zR1 cR2 zR2 ltl cl0 ltr cr0 ltk ck0
  have ltA := XA_5.out.lt
  have cA0 := XA_5.out.cell 0 _ rfl
  have cA1 := XA_5.out.cell 1 _ rfl
  have cA2 := XA_5.out.cell 2 _ rfl
  have ltB := XB_5.out.lt
  have cB0 := XB_5.out.cell 0 _ rfl
  have cB1 := XB_5.out.cell 1 _ rfl
  have cB2 := XB_5.out.cell 2 _ rfl
  have ltR := XR_5.out.lt
  have cR0 := XR_5.out.cell 0 _ rfl
  have zR0 := XR_5.out.frozen 0
  have cR1 := XR_5.out.cell 1 _ rfl
  have zR1 := XR_5.out.frozen 1
  have cR2 := XR_5.out.cell 2 _ rfl
  have zR2 := XR_5.out.frozen 2
  have ltl := Xl_5.out.lt
  have cl0 := Xl_5.out.cell 0 _ rfl
  have ltr := Xr_5.out.lt
  have cr0 := Xr_5.out.cell 0 _ rfl
  have ltk := Xk_5.out.lt
  have ck0 := Xk_5.out.cell 0 _ rfl
  have Rs_5 := hid hr4
  have lens := hr4.len
  have bds : sn ≤ 20000 := by rw [← lens]; exact diff_len (by omega)
  clear hb4 hr4
  have YA_5 := hid (bx_past XA_5.out (.cells #[.slice so sn sc] 74))
  have YB_5 := hid (bx_past XB_5.out (.cells #[.slice so sn sc] 74))
  have YR_5 := hid (bx_past XR_5.out (.cells #[.slice so sn sc] 74))
  have Yl_5 := hid (bx_past Xl_5.out (.cells #[.slice so sn sc] 74))
  have Yr_5 := hid (bx_past Xr_5.out (.cells #[.slice so sn sc] 74))
  have Yk_5 := hid (bx_past Xk_5.out (.cells #[.slice so sn sc] 74))
  have Ys_5 := hid (bx_new w4 #[.slice so sn sc] 74)
  have Q0_5 := hid (R0_5.out.alloc (.cells #[.slice so sn sc] 74))
  have Q1_5 := hid (R1_5.out.alloc (.cells #[.slice so sn sc] 74))
  have Q2_5 := hid (R2_5.out.alloc (.cells #[.slice so sn sc] 74))
  have Q3_5 := hid (R3_5.out.alloc (.cells #[.slice so sn sc] 74))
  have Ql_5 := hid (Rl_5.out.alloc (.cells #[.slice so sn sc] 74))
  have Qr_5 := hid (Rr_5.out.alloc (.cells #[.slice so sn sc] 74))
  have Qk_5 := hid (Rk_5.out.alloc (.cells #[.slice so sn sc] 74))
  have Qs_5 := hid (Rs_5.out.alloc (.cells #[.slice so sn sc] 74))
  have HC_5 : Hid (Below w.heap.size w (w4.alloc (.cells #[.slice so sn sc] 74))) := HB_5.out.alloc HB_5.out.size (.cells #[.slice so sn sc] 74)
  go_wp2_with fail
  refine (lowest_any (negB y) so ko sn sc kn kc (y.num.natAbs * x.den - (x.num.natAbs * y.den)) (x.den * y.den) _ Qs_5.out Qk_5.out (by omega) (by omega) (Nat.mul_ne_zero x.den_nz y.den_nz)).mono ?_
  rintro e5 w5 ⟨v5, rfl, ⟨go, gn, gc, ho, hn, hc, rfl, hg, hh⟩, hb5⟩
  have XA_6 := hid (YA_5.out.keep hb5)
  have XB_6 := hid (YB_5.out.keep hb5)
  have XR_6 := hid (YR_5.out.keep hb5)
  have Xl_6 := hid (Yl_5.out.keep hb5)
  have Xr_6 := hid (Yr_5.out.keep hb5)
  have Xk_6 := hid (Yk_5.out.keep hb5)
  have Xs_6 := hid (Ys_5.out.keep hb5)
  have R0_6 := hid (Q0_5.out.below hb5)
  have R1_6 := hid (Q1_5.out.below hb5)
  have R2_6 := hid (Q2_5.out.below hb5)
  have R3_6 := hid (Q3_5.out.below hb5)
  have Rl_6 := hid (Ql_5.out.below hb5)
  have Rr_6 := hid (Qr_5.out.below hb5)
  have Rk_6 := hid (Qk_5.out.below hb5)
  have Rs_6 := hid (Qs_5.out.below hb5)
  have HB_6 : Hid (Below w.heap.size w w5) := HC_5.out.trans (hb5.mono HC_5.out.size)
  clear ltA cA0 cA1 cA2 ltB cB0 cB1 cB2 ltR cR0 zR0 cR1 zR1 cR2 zR2 ltl cl0 ltr cr0 ltk ck0
  have ltA := XA_6.out.lt
  have cA0 := XA_6.out.cell 0 _ rfl
  have cA1 := XA_6.out.cell 1 _ rfl
  have cA2 := XA_6.out.cell 2 _ rfl
  have ltB := XB_6.out.lt
  have cB0 := XB_6.out.cell 0 _ rfl
  have cB1 := XB_6.out.cell 1 _ rfl
  have cB2 := XB_6.out.cell 2 _ rfl
  have ltR := XR_6.out.lt
  have cR0 := XR_6.out.cell 0 _ rfl
  have zR0 := XR_6.out.frozen 0
  have cR1 := XR_6.out.cell 1 _ rfl
  have zR1 := XR_6.out.frozen 1
  have cR2 := XR_6.out.cell 2 _ rfl
  have zR2 := XR_6.out.frozen 2
  have ltl := Xl_6.out.lt
  have cl0 := Xl_6.out.cell 0 _ rfl
  have ltr := Xr_6.out.lt
  have cr0 := Xr_6.out.cell 0 _ rfl
  have ltk := Xk_6.out.lt
  have ck0 := Xk_6.out.cell 0 _ rfl
  have lts := Xs_6.out.lt
  have cs0 := Xs_6.out.cell 0 _ rfl
  have HG := hid hg
  have HH := hid hh
  clear hb5 hg hh
  go_wp2
  have Z := XR_6.out.put3 (.bool (negB (mkRat (sg (negB y) (y.num.natAbs * x.den - (x.num.natAbs * y.den))) (x.den * y.den)))) (.slice go gn gc) (.slice ho hn hc)
  have z0 := Z.cell 0 _ rfl
  have z1 := Z.cell 1 _ rfl
  have z2 := Z.cell 2 _ rfl
  unfold wput3 at z0 z1 z2
  refine bodyPost_ret (v := .agg #[.bool (negB (mkRat (sg (negB y) (y.num.natAbs * x.den - (x.num.natAbs * y.den))) (x.den * y.den))), .slice go gn gc, .slice ho hn hc]) (by simp [results, Tryd.results51, go_sem, z0, z1, z2]) rfl ⟨_, rfl, ?_, below_put3 HB_6.out (by omega) _ _ _⟩
  rw [add_sg, sg_more _ _ _ _ hne'.out (Nat.le_of_lt hlt'.out)]
  exact ⟨go, gn, gc, ho, hn, hc, rfl, HG.out.put3 XR_6.out (by decide) _ _ _, HH.out.put3 XR_6.out (by decide) _ _ _⟩

set_option maxHeartbeats 2000000 in
set_option maxRecDepth 20000 in
theorem radd_ge (ao bo co eo : Option Addr) (n capa m capb p capc q capd : Nat) (x y : Rat) (w : World) (h1 : Row w ao n capa (limbs x.num.natAbs)) (h2 : Row w bo m capb (limbs x.den)) (h3 : Row w co p capc (limbs y.num.natAbs)) (h4 : Row w eo q capd (limbs y.den)) (b1 : n ≤ 10000) (b2 : m ≤ 10000) (b3 : p ≤ 10000) (b4 : q ≤ 10000) (hne : negB x ≠ negB y) (hlt : (y.num.natAbs * x.den ≤ x.num.natAbs * y.den)) :
    Calls Tryd.prog 51 #[.agg #[.bool (negB x), .slice ao n capa, .slice bo m capb], .agg #[.bool (negB y), .slice co p capc, .slice eo q capd]] w fun e w' => ∃ v, e = .returned v ∧ Frac w' v (x + y) ∧ Below w.heap.size w w' := by
  have hs : (negB x == negB y) = false := by rw [beq_eq_false_iff_ne]; exact hne
  obtain ⟨C, hC0, hc⟩ : ∃ C : Int, 0 ≤ C ∧ Hid (cmp3 ((x.num.natAbs * y.den : Nat) : Int) ((y.num.natAbs * x.den : Nat) : Int) = C) := ⟨_, by unfold cmp3; rw [if_neg (by omega)]; split <;> omega, rfl⟩
  have hne' := hid hne
  have hlt' := hid hlt
  clear hne hlt
  obtain ⟨c1, c2, c3, c5⟩ := boxes3 w #[.bool (negB x), .slice ao n capa, .slice bo m capb] #[.bool (negB y), .slice co p capc, .slice eo q capd] #[.bool false, .slice none 0 0, .slice none 0 0] 76 76 76
  have R0_0 := hid (h1.below c5)
  have len0 := h1.len
  have R1_0 := hid (h2.below c5)
  have len1 := h2.len
  have R2_0 := hid (h3.below c5)
  have len2 := h3.len
  have R3_0 := hid (h4.below c5)
  have len3 := h4.len
  have XA_0 := hid c1
  have XB_0 := hid c2
  have XR_0 := hid c3
  have HB_0 := hid c5
  clear h1 h2 h3 h4 c1 c2 c3 c5
  go_enter Tryd.func51, Tryd.ntmps51
  go_wp2_with fail
  refine (mul_any ao eo n capa q capd (x.num.natAbs) (y.den) _ R0_0.out R3_0.out (by omega)).mono ?_
  rintro e0 w0 ⟨v0, rfl, ⟨lo, ln, lc, rfl, hr0⟩, hb0⟩
  have XA_1 := hid (XA_0.out.keep hb0)
  have XB_1 := hid (XB_0.out.keep hb0)
  have XR_1 := hid (XR_0.out.keep hb0)
  have R0_1 := hid (R0_0.out.below hb0)
  have R1_1 := hid (R1_0.out.below hb0)
  have R2_1 := hid (R2_0.out.below hb0)
  have R3_1 := hid (R3_0.out.below hb0)
  have HB_1 : Hid (Below w.heap.size w w0) := HB_0.out.trans (hb0.mono HB_0.out.size)
  have ltA := XA_1.out.lt
  have cA0 := XA_1.out.cell 0 _ rfl
  have cA1 := XA_1.out.cell 1 _ rfl
  have cA2 := XA_1.out.cell 2 _ rfl
  have ltB := XB_1.out.lt
  have cB0 := XB_1.out.cell 0 _ rfl
  have cB1 := XB_1.out.cell 1 _ rfl
  have cB2 := XB_1.out.cell 2 _ rfl
  have ltR := XR_1.out.lt
  have cR0 := XR_1.out.cell 0 _ rfl
  have zR0 := XR_1.out.frozen 0
  have cR1 := XR_1.out.cell 1 _ rfl
  have zR1 := XR_1.out.frozen 1
  have cR2 := XR_1.out.cell 2 _ rfl
  have zR2 := XR_1.out.frozen 2
  have Rl_1 := hid hr0
  have lenl := hr0.len
  have bdl : ln ≤ 20000 := by rw [← lenl]; exact Nat.le_trans (prod_len len0 len3) (by omega)
  clear hb0 hr0
  have YA_1 := hid (bx_past XA_1.out (.cells #[.slice lo ln lc] 74))
  have YB_1 := hid (bx_past XB_1.out (.cells #[.slice lo ln lc] 74))
  have YR_1 := hid (bx_past XR_1.out (.cells #[.slice lo ln lc] 74))
  have Yl_1 := hid (bx_new w0 #[.slice lo ln lc] 74)
  have Q0_1 := hid (R0_1.out.alloc (.cells #[.slice lo ln lc] 74))
  have Q1_1 := hid (R1_1.out.alloc (.cells #[.slice lo ln lc] 74))
  have Q2_1 := hid (R2_1.out.alloc (.cells #[.slice lo ln lc] 74))
  have Q3_1 := hid (R3_1.out.alloc (.cells #[.slice lo ln lc] 74))
  have Ql_1 := hid (Rl_1.out.alloc (.cells #[.slice lo ln lc] 74))
  have HC_1 : Hid (Below w.heap.size w (w0.alloc (.cells #[.slice lo ln lc] 74))) := HB_1.out.alloc HB_1.out.size (.cells #[.slice lo ln lc] 74)
  go_wp2_with fail
  refine (mul_any co bo p capc m capb (y.num.natAbs) (x.den) _ Q2_1.out Q1_1.out (by omega)).mono ?_
  rintro e1 w1 ⟨v1, rfl, ⟨ro, rn, rc, rfl, hr1⟩, hb1⟩
  have XA_2 := hid (YA_1.out.keep hb1)
  have XB_2 := hid (YB_1.out.keep hb1)
  have XR_2 := hid (YR_1.out.keep hb1)
  have Xl_2 := hid (Yl_1.out.keep hb1)
  have R0_2 := hid (Q0_1.out.below hb1)
  have R1_2 := hid (Q1_1.out.below hb1)
  have R2_2 := hid (Q2_1.out.below hb1)
  have R3_2 := hid (Q3_1.out.below hb1)
  have Rl_2 := hid (Ql_1.out.below hb1)
  have HB_2 : Hid (Below w.heap.size w w1) := HC_1.out.trans (hb1.mono HC_1.out.size)
  clear ltA cA0 cA1 cA2 ltB cB0 cB1 cB2 ltR cR0 zR0 cR1 zR1 cR2 zR2
  have ltA := XA_2.out.lt
  have cA0 := XA_2.out.cell 0 _ rfl
  have cA1 := XA_2.out.cell 1 _ rfl
  have cA2 := XA_2.out.cell 2 _ rfl
  have ltB := XB_2.out.lt
  have cB0 := XB_2.out.cell 0 _ rfl
  have cB1 := XB_2.out.cell 1 _ rfl
  have cB2 := XB_2.out.cell 2 _ rfl
  have ltR := XR_2.out.lt
  have cR0 := XR_2.out.cell 0 _ rfl
  have zR0 := XR_2.out.frozen 0
  have cR1 := XR_2.out.cell 1 _ rfl
  have zR1 := XR_2.out.frozen 1
  have cR2 := XR_2.out.cell 2 _ rfl
  have zR2 := XR_2.out.frozen 2
  have ltl := Xl_2.out.lt
  have cl0 := Xl_2.out.cell 0 _ rfl
  have Rr_2 := hid hr1
  have lenr := hr1.len
  have bdr : rn ≤ 20000 := by rw [← lenr]; exact Nat.le_trans (prod_len len2 len1) (by omega)
  clear hb1 hr1
  have YA_2 := hid (bx_past XA_2.out (.cells #[.slice ro rn rc] 74))
  have YB_2 := hid (bx_past XB_2.out (.cells #[.slice ro rn rc] 74))
  have YR_2 := hid (bx_past XR_2.out (.cells #[.slice ro rn rc] 74))
  have Yl_2 := hid (bx_past Xl_2.out (.cells #[.slice ro rn rc] 74))
  have Yr_2 := hid (bx_new w1 #[.slice ro rn rc] 74)
  have Q0_2 := hid (R0_2.out.alloc (.cells #[.slice ro rn rc] 74))
  have Q1_2 := hid (R1_2.out.alloc (.cells #[.slice ro rn rc] 74))
  have Q2_2 := hid (R2_2.out.alloc (.cells #[.slice ro rn rc] 74))
  have Q3_2 := hid (R3_2.out.alloc (.cells #[.slice ro rn rc] 74))
  have Ql_2 := hid (Rl_2.out.alloc (.cells #[.slice ro rn rc] 74))
  have Qr_2 := hid (Rr_2.out.alloc (.cells #[.slice ro rn rc] 74))
  have HC_2 : Hid (Below w.heap.size w (w1.alloc (.cells #[.slice ro rn rc] 74))) := HB_2.out.alloc HB_2.out.size (.cells #[.slice ro rn rc] 74)
  go_wp2_with fail
  refine (mul_any bo eo m capb q capd (x.den) (y.den) _ Q1_2.out Q3_2.out (by omega)).mono ?_
  rintro e2 w2 ⟨v2, rfl, ⟨ko, kn, kc, rfl, hr2⟩, hb2⟩
  have XA_3 := hid (YA_2.out.keep hb2)
  have XB_3 := hid (YB_2.out.keep hb2)
  have XR_3 := hid (YR_2.out.keep hb2)
  have Xl_3 := hid (Yl_2.out.keep hb2)
  have Xr_3 := hid (Yr_2.out.keep hb2)
  have R0_3 := hid (Q0_2.out.below hb2)
  have R1_3 := hid (Q1_2.out.below hb2)
  have R2_3 := hid (Q2_2.out.below hb2)
  have R3_3 := hid (Q3_2.out.below hb2)
  have Rl_3 := hid (Ql_2.out.below hb2)
  have Rr_3 := hid (Qr_2.out.below hb2)
  have HB_3 : Hid (Below w.heap.size w w2) := HC_2.out.trans (hb2.mono HC_2.out.size)
  clear ltA cA0 cA1 cA2 ltB cB0 cB1 cB2 ltR cR0 zR0 cR1 zR1 cR2 zR2 ltl cl0
  have ltA := XA_3.out.lt
  have cA0 := XA_3.out.cell 0 _ rfl
  have cA1 := XA_3.out.cell 1 _ rfl
  have cA2 := XA_3.out.cell 2 _ rfl
  have ltB := XB_3.out.lt
  have cB0 := XB_3.out.cell 0 _ rfl
  have cB1 := XB_3.out.cell 1 _ rfl
  have cB2 := XB_3.out.cell 2 _ rfl
  have ltR := XR_3.out.lt
  have cR0 := XR_3.out.cell 0 _ rfl
  have zR0 := XR_3.out.frozen 0
  have cR1 := XR_3.out.cell 1 _ rfl
  have zR1 := XR_3.out.frozen 1
  have cR2 := XR_3.out.cell 2 _ rfl
  have zR2 := XR_3.out.frozen 2
  have ltl := Xl_3.out.lt
  have cl0 := Xl_3.out.cell 0 _ rfl
  have ltr := Xr_3.out.lt
  have cr0 := Xr_3.out.cell 0 _ rfl
  have Rk_3 := hid hr2
  have lenk := hr2.len
  have bdk : kn ≤ 20000 := by rw [← lenk]; exact Nat.le_trans (prod_len len1 len3) (by omega)
  clear hb2 hr2
  have YA_3 := hid (bx_past XA_3.out (.cells #[.slice ko kn kc] 74))
  have YB_3 := hid (bx_past XB_3.out (.cells #[.slice ko kn kc] 74))
  have YR_3 := hid (bx_past XR_3.out (.cells #[.slice ko kn kc] 74))
  have Yl_3 := hid (bx_past Xl_3.out (.cells #[.slice ko kn kc] 74))
  have Yr_3 := hid (bx_past Xr_3.out (.cells #[.slice ko kn kc] 74))
  have Yk_3 := hid (bx_new w2 #[.slice ko kn kc] 74)
  have Q0_3 := hid (R0_3.out.alloc (.cells #[.slice ko kn kc] 74))
  have Q1_3 := hid (R1_3.out.alloc (.cells #[.slice ko kn kc] 74))
  have Q2_3 := hid (R2_3.out.alloc (.cells #[.slice ko kn kc] 74))
  have Q3_3 := hid (R3_3.out.alloc (.cells #[.slice ko kn kc] 74))
  have Ql_3 := hid (Rl_3.out.alloc (.cells #[.slice ko kn kc] 74))
  have Qr_3 := hid (Rr_3.out.alloc (.cells #[.slice ko kn kc] 74))
  have Qk_3 := hid (Rk_3.out.alloc (.cells #[.slice ko kn kc] 74))
  have HC_3 : Hid (Below w.heap.size w (w2.alloc (.cells #[.slice ko kn kc] 74))) := HB_3.out.alloc HB_3.out.size (.cells #[.slice ko kn kc] 74)
  go_wp2_with fail
  refine (compare_any lo ro ln lc rn rc (x.num.natAbs * y.den) (y.num.natAbs * x.den) _ Ql_3.out Qr_3.out (by omega) (by omega)).mono ?_
  rintro e3 w3 ⟨rfl, hb3⟩
  have XA_4 := hid (YA_3.out.keep hb3)
  have XB_4 := hid (YB_3.out.keep hb3)
  have XR_4 := hid (YR_3.out.keep hb3)
  have Xl_4 := hid (Yl_3.out.keep hb3)
  have Xr_4 := hid (Yr_3.out.keep hb3)
  have Xk_4 := hid (Yk_3.out.keep hb3)
  have R0_4 := hid (Q0_3.out.below hb3)
  have R1_4 := hid (Q1_3.out.below hb3)
  have R2_4 := hid (Q2_3.out.below hb3)
  have R3_4 := hid (Q3_3.out.below hb3)
  have Rl_4 := hid (Ql_3.out.below hb3)
  have Rr_4 := hid (Qr_3.out.below hb3)
  have Rk_4 := hid (Qk_3.out.below hb3)
  have HB_4 : Hid (Below w.heap.size w w3) := HC_3.out.trans (hb3.mono HC_3.out.size)
  clear ltA cA0 cA1 cA2 ltB cB0 cB1 cB2 ltR cR0 zR0 cR1 zR1 cR2 zR2 ltl cl0 ltr cr0
  have ltA := XA_4.out.lt
  have cA0 := XA_4.out.cell 0 _ rfl
  have cA1 := XA_4.out.cell 1 _ rfl
  have cA2 := XA_4.out.cell 2 _ rfl
  have ltB := XB_4.out.lt
  have cB0 := XB_4.out.cell 0 _ rfl
  have cB1 := XB_4.out.cell 1 _ rfl
  have cB2 := XB_4.out.cell 2 _ rfl
  have ltR := XR_4.out.lt
  have cR0 := XR_4.out.cell 0 _ rfl
  have zR0 := XR_4.out.frozen 0
  have cR1 := XR_4.out.cell 1 _ rfl
  have zR1 := XR_4.out.frozen 1
  have cR2 := XR_4.out.cell 2 _ rfl
  have zR2 := XR_4.out.frozen 2
  have ltl := Xl_4.out.lt
  have cl0 := Xl_4.out.cell 0 _ rfl
  have ltr := Xr_4.out.lt
  have cr0 := Xr_4.out.cell 0 _ rfl
  have ltk := Xk_4.out.lt
  have ck0 := Xk_4.out.cell 0 _ rfl
  rw [hc.out]
  clear hb3
  go_wp2_with fail
  refine (sub_any lo ro ln lc rn rc (x.num.natAbs * y.den) (y.num.natAbs * x.den) _ Rl_4.out Rr_4.out (by omega) (by omega)).mono ?_
  rintro e4 w4 ⟨v4, rfl, ⟨so, sn, sc, rfl, hr4⟩, hb4⟩
  have XA_5 := hid (XA_4.out.keep hb4)
  have XB_5 := hid (XB_4.out.keep hb4)
  have XR_5 := hid (XR_4.out.keep hb4)
  have Xl_5 := hid (Xl_4.out.keep hb4)
  have Xr_5 := hid (Xr_4.out.keep hb4)
  have Xk_5 := hid (Xk_4.out.keep hb4)
  have R0_5 := hid (R0_4.out.below hb4)
  have R1_5 := hid (R1_4.out.below hb4)
  have R2_5 := hid (R2_4.out.below hb4)
  have R3_5 := hid (R3_4.out.below hb4)
  have Rl_5 := hid (Rl_4.out.below hb4)
  have Rr_5 := hid (Rr_4.out.below hb4)
  have Rk_5 := hid (Rk_4.out.below hb4)
  have HB_5 : Hid (Below w.heap.size w w4) := HB_4.out.trans (hb4.mono HB_4.out.size)
  clear ltA cA0 cA1 cA2 ltB cB0 cB1 cB2 ltR cR0 zR0 cR1 zR1 cR2 zR2 ltl cl0 ltr cr0 ltk ck0
  have ltA := XA_5.out.lt
  have cA0 := XA_5.out.cell 0 _ rfl
  have cA1 := XA_5.out.cell 1 _ rfl
  have cA2 := XA_5.out.cell 2 _ rfl
  have ltB := XB_5.out.lt
  have cB0 := XB_5.out.cell 0 _ rfl
  have cB1 := XB_5.out.cell 1 _ rfl
  have cB2 := XB_5.out.cell 2 _ rfl
  have ltR := XR_5.out.lt
  have cR0 := XR_5.out.cell 0 _ rfl
  have zR0 := XR_5.out.frozen 0
  have cR1 := XR_5.out.cell 1 _ rfl
  have zR1 := XR_5.out.frozen 1
  have cR2 := XR_5.out.cell 2 _ rfl
  have zR2 := XR_5.out.frozen 2
  have ltl := Xl_5.out.lt
  have cl0 := Xl_5.out.cell 0 _ rfl
  have ltr := Xr_5.out.lt
  have cr0 := Xr_5.out.cell 0 _ rfl
  have ltk := Xk_5.out.lt
  have ck0 := Xk_5.out.cell 0 _ rfl
  have Rs_5 := hid hr4
  have lens := hr4.len
  have bds : sn ≤ 20000 := by rw [← lens]; exact diff_len (by omega)
  clear hb4 hr4
  have YA_5 := hid (bx_past XA_5.out (.cells #[.slice so sn sc] 74))
  have YB_5 := hid (bx_past XB_5.out (.cells #[.slice so sn sc] 74))
  have YR_5 := hid (bx_past XR_5.out (.cells #[.slice so sn sc] 74))
  have Yl_5 := hid (bx_past Xl_5.out (.cells #[.slice so sn sc] 74))
  have Yr_5 := hid (bx_past Xr_5.out (.cells #[.slice so sn sc] 74))
  have Yk_5 := hid (bx_past Xk_5.out (.cells #[.slice so sn sc] 74))
  have Ys_5 := hid (bx_new w4 #[.slice so sn sc] 74)
  have Q0_5 := hid (R0_5.out.alloc (.cells #[.slice so sn sc] 74))
  have Q1_5 := hid (R1_5.out.alloc (.cells #[.slice so sn sc] 74))
  have Q2_5 := hid (R2_5.out.alloc (.cells #[.slice so sn sc] 74))
  have Q3_5 := hid (R3_5.out.alloc (.cells #[.slice so sn sc] 74))
  have Ql_5 := hid (Rl_5.out.alloc (.cells #[.slice so sn sc] 74))
  have Qr_5 := hid (Rr_5.out.alloc (.cells #[.slice so sn sc] 74))
  have Qk_5 := hid (Rk_5.out.alloc (.cells #[.slice so sn sc] 74))
  have Qs_5 := hid (Rs_5.out.alloc (.cells #[.slice so sn sc] 74))
  have HC_5 : Hid (Below w.heap.size w (w4.alloc (.cells #[.slice so sn sc] 74))) := HB_5.out.alloc HB_5.out.size (.cells #[.slice so sn sc] 74)
  go_wp2_with fail
  refine (lowest_any (negB x) so ko sn sc kn kc (x.num.natAbs * y.den - y.num.natAbs * x.den) (x.den * y.den) _ Qs_5.out Qk_5.out (by omega) (by omega) (Nat.mul_ne_zero x.den_nz y.den_nz)).mono ?_
  rintro e5 w5 ⟨v5, rfl, ⟨go, gn, gc, ho, hn, hc, rfl, hg, hh⟩, hb5⟩
  have XA_6 := hid (YA_5.out.keep hb5)
  have XB_6 := hid (YB_5.out.keep hb5)
  have XR_6 := hid (YR_5.out.keep hb5)
  have Xl_6 := hid (Yl_5.out.keep hb5)
  have Xr_6 := hid (Yr_5.out.keep hb5)
  have Xk_6 := hid (Yk_5.out.keep hb5)
  have Xs_6 := hid (Ys_5.out.keep hb5)
  have R0_6 := hid (Q0_5.out.below hb5)
  have R1_6 := hid (Q1_5.out.below hb5)
  have R2_6 := hid (Q2_5.out.below hb5)
  have R3_6 := hid (Q3_5.out.below hb5)
  have Rl_6 := hid (Ql_5.out.below hb5)
  have Rr_6 := hid (Qr_5.out.below hb5)
  have Rk_6 := hid (Qk_5.out.below hb5)
  have Rs_6 := hid (Qs_5.out.below hb5)
  have HB_6 : Hid (Below w.heap.size w w5) := HC_5.out.trans (hb5.mono HC_5.out.size)
  clear ltA cA0 cA1 cA2 ltB cB0 cB1 cB2 ltR cR0 zR0 cR1 zR1 cR2 zR2 ltl cl0 ltr cr0 ltk ck0
  have ltA := XA_6.out.lt
  have cA0 := XA_6.out.cell 0 _ rfl
  have cA1 := XA_6.out.cell 1 _ rfl
  have cA2 := XA_6.out.cell 2 _ rfl
  have ltB := XB_6.out.lt
  have cB0 := XB_6.out.cell 0 _ rfl
  have cB1 := XB_6.out.cell 1 _ rfl
  have cB2 := XB_6.out.cell 2 _ rfl
  have ltR := XR_6.out.lt
  have cR0 := XR_6.out.cell 0 _ rfl
  have zR0 := XR_6.out.frozen 0
  have cR1 := XR_6.out.cell 1 _ rfl
  have zR1 := XR_6.out.frozen 1
  have cR2 := XR_6.out.cell 2 _ rfl
  have zR2 := XR_6.out.frozen 2
  have ltl := Xl_6.out.lt
  have cl0 := Xl_6.out.cell 0 _ rfl
  have ltr := Xr_6.out.lt
  have cr0 := Xr_6.out.cell 0 _ rfl
  have ltk := Xk_6.out.lt
  have ck0 := Xk_6.out.cell 0 _ rfl
  have lts := Xs_6.out.lt
  have cs0 := Xs_6.out.cell 0 _ rfl
  have HG := hid hg
  have HH := hid hh
  clear hb5 hg hh
  go_wp2
  have Z := XR_6.out.put3 (.bool (negB (mkRat (sg (negB x) (x.num.natAbs * y.den - y.num.natAbs * x.den)) (x.den * y.den)))) (.slice go gn gc) (.slice ho hn hc)
  have z0 := Z.cell 0 _ rfl
  have z1 := Z.cell 1 _ rfl
  have z2 := Z.cell 2 _ rfl
  unfold wput3 at z0 z1 z2
  refine bodyPost_ret (v := .agg #[.bool (negB (mkRat (sg (negB x) (x.num.natAbs * y.den - y.num.natAbs * x.den)) (x.den * y.den))), .slice go gn gc, .slice ho hn hc]) (by simp [results, Tryd.results51, go_sem, z0, z1, z2]) rfl ⟨_, rfl, ?_, below_put3 HB_6.out (by omega) _ _ _⟩
  rw [add_sg, sg_less _ _ _ _ hne'.out hlt'.out]
  exact ⟨go, gn, gc, ho, hn, hc, rfl, HG.out.put3 XR_6.out (by decide) _ _ _, HH.out.put3 XR_6.out (by decide) _ _ _⟩

theorem radd_any (ao bo co eo : Option Addr) (n capa m capb p capc q capd : Nat) (x y : Rat) (w : World) (h1 : Row w ao n capa (limbs x.num.natAbs)) (h2 : Row w bo m capb (limbs x.den)) (h3 : Row w co p capc (limbs y.num.natAbs)) (h4 : Row w eo q capd (limbs y.den)) (b1 : n ≤ 10000) (b2 : m ≤ 10000) (b3 : p ≤ 10000) (b4 : q ≤ 10000) :
    Calls Tryd.prog 51 #[.agg #[.bool (negB x), .slice ao n capa, .slice bo m capb], .agg #[.bool (negB y), .slice co p capc, .slice eo q capd]] w fun e w' => ∃ v, e = .returned v ∧ Frac w' v (x + y) ∧ Below w.heap.size w w' := by
  by_cases he : negB x = negB y
  · exact radd_eq ao bo co eo n capa m capb p capc q capd x y w h1 h2 h3 h4 b1 b2 b3 b4 he
  · by_cases hl : x.num.natAbs * y.den < y.num.natAbs * x.den
    · exact radd_lt ao bo co eo n capa m capb p capc q capd x y w h1 h2 h3 h4 b1 b2 b3 b4 he hl
    · exact radd_ge ao bo co eo n capa m capb p capc q capd x y w h1 h2 h3 h4 b1 b2 b3 b4 he (by omega)

end Go.Proofs.YtddbflggcblfcaaDoor
