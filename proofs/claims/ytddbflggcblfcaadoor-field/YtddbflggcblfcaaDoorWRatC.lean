/- ratio.Multiply, Divide, Compare: of any two fractions. (Laid by mkratc.py.) -/
import Derived.Test.YtddbflggcblfcaaDoorWRatB
namespace Go.Proofs.YtddbflggcblfcaaDoor
set_option linter.unusedSimpArgs false
set_option linter.unusedVariables false
open Go.RowKit Por

set_option maxHeartbeats 2000000 in
set_option maxRecDepth 20000 in
theorem rmul_any (ao bo co eo : Option Addr) (n capa m capb p capc q capd : Nat) (x y : Rat) (w : World) (h1 : Row w ao n capa (limbs x.num.natAbs)) (h2 : Row w bo m capb (limbs x.den)) (h3 : Row w co p capc (limbs y.num.natAbs)) (h4 : Row w eo q capd (limbs y.den)) (b1 : n ≤ 10000) (b2 : m ≤ 10000) (b3 : p ≤ 10000) (b4 : q ≤ 10000) :
    Calls Tryd.prog 57 #[.agg #[.bool (negB x), .slice ao n capa, .slice bo m capb], .agg #[.bool (negB y), .slice co p capc, .slice eo q capd]] w fun e w' => ∃ v, e = .returned v ∧ Frac w' v (x * y) ∧ Below w.heap.size w w' := by
  obtain ⟨c1, c2, c3, c5⟩ := boxes3 w #[.bool (negB x), .slice ao n capa, .slice bo m capb] #[.bool (negB y), .slice co p capc, .slice eo q capd] #[.bool false, .slice none 0 0, .slice none 0 0] 76 76 76
  have R0_0 := hid (h1.below c5)
  have len0 := h1.len
  have R1_0 := hid (h2.below c5)
  have len1 := h2.len
  have R2_0 := hid (h3.below c5)
  have len2 := h3.len
  have R3_0 := hid (h4.below c5)
  have len3 := h4.len
  have XA_0 := hid c1
  have XB_0 := hid c2
  have XR_0 := hid c3
  have HB_0 := hid c5
  clear h1 h2 h3 h4 c1 c2 c3 c5
  go_enter Tryd.func57, Tryd.ntmps57
  go_wp2_with fail
  refine (mul_any ao co n capa p capc (x.num.natAbs) (y.num.natAbs) _ R0_0.out R2_0.out (by omega)).mono ?_
  rintro e0 w0 ⟨v0, rfl, ⟨to, tn, tc, rfl, hr0⟩, hb0⟩
  have XA_1 := hid (XA_0.out.keep hb0)
  have XB_1 := hid (XB_0.out.keep hb0)
  have XR_1 := hid (XR_0.out.keep hb0)
  have R0_1 := hid (R0_0.out.below hb0)
  have R1_1 := hid (R1_0.out.below hb0)
  have R2_1 := hid (R2_0.out.below hb0)
  have R3_1 := hid (R3_0.out.below hb0)
  have HB_1 : Hid (Below w.heap.size w w0) := HB_0.out.trans (hb0.mono HB_0.out.size)
  have ltA := XA_1.out.lt
  have cA0 := XA_1.out.cell 0 _ rfl
  have cA1 := XA_1.out.cell 1 _ rfl
  have cA2 := XA_1.out.cell 2 _ rfl
  have ltB := XB_1.out.lt
  have cB0 := XB_1.out.cell 0 _ rfl
  have cB1 := XB_1.out.cell 1 _ rfl
  have cB2 := XB_1.out.cell 2 _ rfl
  have ltR := XR_1.out.lt
  have cR0 := XR_1.out.cell 0 _ rfl
  have zR0 := XR_1.out.frozen 0
  have cR1 := XR_1.out.cell 1 _ rfl
  have zR1 := XR_1.out.frozen 1
  have cR2 := XR_1.out.cell 2 _ rfl
  have zR2 := XR_1.out.frozen 2
  have Rt_1 := hid hr0
  have lent := hr0.len
  have bdt : tn ≤ 20000 := by rw [← lent]; exact Nat.le_trans (prod_len len0 len2) (by omega)
  clear hb0 hr0
  have YA_1 := hid (bx_past XA_1.out (.cells #[.slice to tn tc] 74))
  have YB_1 := hid (bx_past XB_1.out (.cells #[.slice to tn tc] 74))
  have YR_1 := hid (bx_past XR_1.out (.cells #[.slice to tn tc] 74))
  have Yt_1 := hid (bx_new w0 #[.slice to tn tc] 74)
  have Q0_1 := hid (R0_1.out.alloc (.cells #[.slice to tn tc] 74))
  have Q1_1 := hid (R1_1.out.alloc (.cells #[.slice to tn tc] 74))
  have Q2_1 := hid (R2_1.out.alloc (.cells #[.slice to tn tc] 74))
  have Q3_1 := hid (R3_1.out.alloc (.cells #[.slice to tn tc] 74))
  have Qt_1 := hid (Rt_1.out.alloc (.cells #[.slice to tn tc] 74))
  have HC_1 : Hid (Below w.heap.size w (w0.alloc (.cells #[.slice to tn tc] 74))) := HB_1.out.alloc HB_1.out.size (.cells #[.slice to tn tc] 74)
  go_wp2_with fail
  refine (mul_any bo eo m capb q capd (x.den) (y.den) _ Q1_1.out Q3_1.out (by omega)).mono ?_
  rintro e1 w1 ⟨v1, rfl, ⟨ko, kn, kc, rfl, hr1⟩, hb1⟩
  have XA_2 := hid (YA_1.out.keep hb1)
  have XB_2 := hid (YB_1.out.keep hb1)
  have XR_2 := hid (YR_1.out.keep hb1)
  have Xt_2 := hid (Yt_1.out.keep hb1)
  have R0_2 := hid (Q0_1.out.below hb1)
  have R1_2 := hid (Q1_1.out.below hb1)
  have R2_2 := hid (Q2_1.out.below hb1)
  have R3_2 := hid (Q3_1.out.below hb1)
  have Rt_2 := hid (Qt_1.out.below hb1)
  have HB_2 : Hid (Below w.heap.size w w1) := HC_1.out.trans (hb1.mono HC_1.out.size)
  clear ltA cA0 cA1 cA2 ltB cB0 cB1 cB2 ltR cR0 zR0 cR1 zR1 cR2 zR2
  have ltA := XA_2.out.lt
  have cA0 := XA_2.out.cell 0 _ rfl
  have cA1 := XA_2.out.cell 1 _ rfl
  have cA2 := XA_2.out.cell 2 _ rfl
  have ltB := XB_2.out.lt
  have cB0 := XB_2.out.cell 0 _ rfl
  have cB1 := XB_2.out.cell 1 _ rfl
  have cB2 := XB_2.out.cell 2 _ rfl
  have ltR := XR_2.out.lt
  have cR0 := XR_2.out.cell 0 _ rfl
  have zR0 := XR_2.out.frozen 0
  have cR1 := XR_2.out.cell 1 _ rfl
  have zR1 := XR_2.out.frozen 1
  have cR2 := XR_2.out.cell 2 _ rfl
  have zR2 := XR_2.out.frozen 2
  have ltt := Xt_2.out.lt
  have ct0 := Xt_2.out.cell 0 _ rfl
  have Rk_2 := hid hr1
  have lenk := hr1.len
  have bdk : kn ≤ 20000 := by rw [← lenk]; exact Nat.le_trans (prod_len len1 len3) (by omega)
  clear hb1 hr1
  have YA_2 := hid (bx_past XA_2.out (.cells #[.slice ko kn kc] 74))
  have YB_2 := hid (bx_past XB_2.out (.cells #[.slice ko kn kc] 74))
  have YR_2 := hid (bx_past XR_2.out (.cells #[.slice ko kn kc] 74))
  have Yt_2 := hid (bx_past Xt_2.out (.cells #[.slice ko kn kc] 74))
  have Yk_2 := hid (bx_new w1 #[.slice ko kn kc] 74)
  have Q0_2 := hid (R0_2.out.alloc (.cells #[.slice ko kn kc] 74))
  have Q1_2 := hid (R1_2.out.alloc (.cells #[.slice ko kn kc] 74))
  have Q2_2 := hid (R2_2.out.alloc (.cells #[.slice ko kn kc] 74))
  have Q3_2 := hid (R3_2.out.alloc (.cells #[.slice ko kn kc] 74))
  have Qt_2 := hid (Rt_2.out.alloc (.cells #[.slice ko kn kc] 74))
  have Qk_2 := hid (Rk_2.out.alloc (.cells #[.slice ko kn kc] 74))
  have HC_2 : Hid (Below w.heap.size w (w1.alloc (.cells #[.slice ko kn kc] 74))) := HB_2.out.alloc HB_2.out.size (.cells #[.slice ko kn kc] 74)
  go_wp2_with fail
  refine (lowest_any (negB x != negB y) to ko tn tc kn kc (x.num.natAbs * y.num.natAbs) (x.den * y.den) _ Qt_2.out Qk_2.out (by omega) (by omega) (Nat.mul_ne_zero x.den_nz y.den_nz)).mono ?_
  rintro e2 w2 ⟨v2, rfl, ⟨go, gn, gc, ho, hn, hc, rfl, hg, hh⟩, hb2⟩
  have XA_3 := hid (YA_2.out.keep hb2)
  have XB_3 := hid (YB_2.out.keep hb2)
  have XR_3 := hid (YR_2.out.keep hb2)
  have Xt_3 := hid (Yt_2.out.keep hb2)
  have Xk_3 := hid (Yk_2.out.keep hb2)
  have R0_3 := hid (Q0_2.out.below hb2)
  have R1_3 := hid (Q1_2.out.below hb2)
  have R2_3 := hid (Q2_2.out.below hb2)
  have R3_3 := hid (Q3_2.out.below hb2)
  have Rt_3 := hid (Qt_2.out.below hb2)
  have Rk_3 := hid (Qk_2.out.below hb2)
  have HB_3 : Hid (Below w.heap.size w w2) := HC_2.out.trans (hb2.mono HC_2.out.size)
  clear ltA cA0 cA1 cA2 ltB cB0 cB1 cB2 ltR cR0 zR0 cR1 zR1 cR2 zR2 ltt ct0
  have ltA := XA_3.out.lt
  have cA0 := XA_3.out.cell 0 _ rfl
  have cA1 := XA_3.out.cell 1 _ rfl
  have cA2 := XA_3.out.cell 2 _ rfl
  have ltB := XB_3.out.lt
  have cB0 := XB_3.out.cell 0 _ rfl
  have cB1 := XB_3.out.cell 1 _ rfl
  have cB2 := XB_3.out.cell 2 _ rfl
  have ltR := XR_3.out.lt
  have cR0 := XR_3.out.cell 0 _ rfl
  have zR0 := XR_3.out.frozen 0
  have cR1 := XR_3.out.cell 1 _ rfl
  have zR1 := XR_3.out.frozen 1
  have cR2 := XR_3.out.cell 2 _ rfl
  have zR2 := XR_3.out.frozen 2
  have ltt := Xt_3.out.lt
  have ct0 := Xt_3.out.cell 0 _ rfl
  have ltk := Xk_3.out.lt
  have ck0 := Xk_3.out.cell 0 _ rfl
  have HG := hid hg
  have HH := hid hh
  clear hb2 hg hh
  go_wp2
  have Z := XR_3.out.put3 (.bool (negB (mkRat (sg (negB x != negB y) (x.num.natAbs * y.num.natAbs)) (x.den * y.den)))) (.slice go gn gc) (.slice ho hn hc)
  have z0 := Z.cell 0 _ rfl
  have z1 := Z.cell 1 _ rfl
  have z2 := Z.cell 2 _ rfl
  unfold wput3 at z0 z1 z2
  refine bodyPost_ret (v := .agg #[.bool (negB (mkRat (sg (negB x != negB y) (x.num.natAbs * y.num.natAbs)) (x.den * y.den))), .slice go gn gc, .slice ho hn hc]) (by simp [results, Tryd.results57, go_sem, z0, z1, z2]) rfl ⟨_, rfl, ?_, below_put3 HB_3.out (by omega) _ _ _⟩
  rw [mul_sg]
  exact ⟨go, gn, gc, ho, hn, hc, rfl, HG.out.put3 XR_3.out (by decide) _ _ _, HH.out.put3 XR_3.out (by decide) _ _ _⟩

set_option maxHeartbeats 2000000 in
set_option maxRecDepth 20000 in
theorem rdiv_no (ao bo co eo : Option Addr) (n capa m capb p capc q capd : Nat) (x y : Rat) (w : World) (h1 : Row w ao n capa (limbs x.num.natAbs)) (h2 : Row w bo m capb (limbs x.den)) (h3 : Row w co p capc (limbs y.num.natAbs)) (h4 : Row w eo q capd (limbs y.den)) (b1 : n ≤ 10000) (b2 : m ≤ 10000) (b3 : p ≤ 10000) (b4 : q ≤ 10000) (hz : isZ y.num.natAbs = true) :
    Calls Tryd.prog 59 #[.agg #[.bool (negB x), .slice ao n capa, .slice bo m capb], .agg #[.bool (negB y), .slice co p capc, .slice eo q capd]] w fun e w' => e = .returned (.tuple #[.agg #[.bool false, .slice none 0 0, .slice none 0 0], .bool false]) ∧ Below w.heap.size w w' := by
  obtain ⟨c1, c2, c3, c5⟩ := boxes3 w #[.bool (negB x), .slice ao n capa, .slice bo m capb] #[.bool (negB y), .slice co p capc, .slice eo q capd] #[.bool false, .slice none 0 0, .slice none 0 0] 76 76 76
  have R0_0 := hid (h1.below c5)
  have len0 := h1.len
  have R1_0 := hid (h2.below c5)
  have len1 := h2.len
  have R2_0 := hid (h3.below c5)
  have len2 := h3.len
  have R3_0 := hid (h4.below c5)
  have len3 := h4.len
  have XA_0 := hid c1
  have XB_0 := hid c2
  have XR_0 := hid c3
  have HB_0 := hid c5
  clear h1 h2 h3 h4 c1 c2 c3 c5
  go_enter Tryd.func59, Tryd.ntmps59
  go_wp2_with fail
  refine (isZero_any co p capc y.num.natAbs _ R2_0.out (by omega)).mono ?_
  rintro e0 w0 ⟨rfl, hb0⟩
  have XA_1 := hid (XA_0.out.keep hb0)
  have XB_1 := hid (XB_0.out.keep hb0)
  have XR_1 := hid (XR_0.out.keep hb0)
  have R0_1 := hid (R0_0.out.below hb0)
  have R1_1 := hid (R1_0.out.below hb0)
  have R2_1 := hid (R2_0.out.below hb0)
  have R3_1 := hid (R3_0.out.below hb0)
  have HB_1 : Hid (Below w.heap.size w w0) := HB_0.out.trans (hb0.mono HB_0.out.size)
  have ltA := XA_1.out.lt
  have cA0 := XA_1.out.cell 0 _ rfl
  have cA1 := XA_1.out.cell 1 _ rfl
  have cA2 := XA_1.out.cell 2 _ rfl
  have ltB := XB_1.out.lt
  have cB0 := XB_1.out.cell 0 _ rfl
  have cB1 := XB_1.out.cell 1 _ rfl
  have cB2 := XB_1.out.cell 2 _ rfl
  have ltR := XR_1.out.lt
  have cR0 := XR_1.out.cell 0 _ rfl
  have zR0 := XR_1.out.frozen 0
  have cR1 := XR_1.out.cell 1 _ rfl
  have zR1 := XR_1.out.frozen 1
  have cR2 := XR_1.out.cell 2 _ rfl
  have zR2 := XR_1.out.frozen 2
  clear hb0
  go_wp2
  have Z := XR_1.out.put3 (.bool false) (.slice none 0 0) (.slice none 0 0)
  have z0 := Z.cell 0 _ rfl
  have z1 := Z.cell 1 _ rfl
  have z2 := Z.cell 2 _ rfl
  unfold wput3 at z0 z1 z2
  exact bodyPost_ret (v := .tuple #[.agg #[.bool false, .slice none 0 0, .slice none 0 0], .bool false]) (by simp [results, Tryd.results59, go_sem, z0, z1, z2]) rfl ⟨rfl, below_put3 HB_1.out (by omega) _ _ _⟩

set_option maxHeartbeats 2000000 in
set_option maxRecDepth 20000 in
theorem rdiv_yes (ao bo co eo : Option Addr) (n capa m capb p capc q capd : Nat) (x y : Rat) (w : World) (h1 : Row w ao n capa (limbs x.num.natAbs)) (h2 : Row w bo m capb (limbs x.den)) (h3 : Row w co p capc (limbs y.num.natAbs)) (h4 : Row w eo q capd (limbs y.den)) (b1 : n ≤ 10000) (b2 : m ≤ 10000) (b3 : p ≤ 10000) (b4 : q ≤ 10000) (hy0 : y ≠ 0) :
    Calls Tryd.prog 59 #[.agg #[.bool (negB x), .slice ao n capa, .slice bo m capb], .agg #[.bool (negB y), .slice co p capc, .slice eo q capd]] w fun e w' => ∃ v, e = .returned (.tuple #[v, .bool true]) ∧ Frac w' v (x / y) ∧ Below w.heap.size w w' := by
  have hy := hid hy0
  have hn0 : Hid (y.num.natAbs ≠ 0) := fun h => hy0 ((num_zero y).1 h)
  have hz : isZ y.num.natAbs = false := by unfold isZ; rw [beq_eq_false_iff_ne]; exact hn0.out
  clear hy0
  obtain ⟨c1, c2, c3, c5⟩ := boxes3 w #[.bool (negB x), .slice ao n capa, .slice bo m capb] #[.bool (negB y), .slice co p capc, .slice eo q capd] #[.bool false, .slice none 0 0, .slice none 0 0] 76 76 76
  have R0_0 := hid (h1.below c5)
  have len0 := h1.len
  have R1_0 := hid (h2.below c5)
  have len1 := h2.len
  have R2_0 := hid (h3.below c5)
  have len2 := h3.len
  have R3_0 := hid (h4.below c5)
  have len3 := h4.len
  have XA_0 := hid c1
  have XB_0 := hid c2
  have XR_0 := hid c3
  have HB_0 := hid c5
  clear h1 h2 h3 h4 c1 c2 c3 c5
  go_enter Tryd.func59, Tryd.ntmps59
  go_wp2_with fail
  refine (isZero_any co p capc y.num.natAbs _ R2_0.out (by omega)).mono ?_
  rintro e0 w0 ⟨rfl, hb0⟩
  have XA_1 := hid (XA_0.out.keep hb0)
  have XB_1 := hid (XB_0.out.keep hb0)
  have XR_1 := hid (XR_0.out.keep hb0)
  have R0_1 := hid (R0_0.out.below hb0)
  have R1_1 := hid (R1_0.out.below hb0)
  have R2_1 := hid (R2_0.out.below hb0)
  have R3_1 := hid (R3_0.out.below hb0)
  have HB_1 : Hid (Below w.heap.size w w0) := HB_0.out.trans (hb0.mono HB_0.out.size)
  have ltA := XA_1.out.lt
  have cA0 := XA_1.out.cell 0 _ rfl
  have cA1 := XA_1.out.cell 1 _ rfl
  have cA2 := XA_1.out.cell 2 _ rfl
  have ltB := XB_1.out.lt
  have cB0 := XB_1.out.cell 0 _ rfl
  have cB1 := XB_1.out.cell 1 _ rfl
  have cB2 := XB_1.out.cell 2 _ rfl
  have ltR := XR_1.out.lt
  have cR0 := XR_1.out.cell 0 _ rfl
  have zR0 := XR_1.out.frozen 0
  have cR1 := XR_1.out.cell 1 _ rfl
  have zR1 := XR_1.out.frozen 1
  have cR2 := XR_1.out.cell 2 _ rfl
  have zR2 := XR_1.out.frozen 2
  clear hb0
  go_wp2_with fail
  refine (mul_any ao eo n capa q capd (x.num.natAbs) (y.den) _ R0_1.out R3_1.out (by omega)).mono ?_
  rintro e1 w1 ⟨v1, rfl, ⟨to, tn, tc, rfl, hr1⟩, hb1⟩
  have XA_2 := hid (XA_1.out.keep hb1)
  have XB_2 := hid (XB_1.out.keep hb1)
  have XR_2 := hid (XR_1.out.keep hb1)
  have R0_2 := hid (R0_1.out.below hb1)
  have R1_2 := hid (R1_1.out.below hb1)
  have R2_2 := hid (R2_1.out.below hb1)
  have R3_2 := hid (R3_1.out.below hb1)
  have HB_2 : Hid (Below w.heap.size w w1) := HB_1.out.trans (hb1.mono HB_1.out.size)
  clear ltA cA0 cA1 cA2 ltB cB0 cB1 cB2 ltR cR0 zR0 cR1 zR1 cR2 zR2
  have ltA := XA_2.out.lt
  have cA0 := XA_2.out.cell 0 _ rfl
  have cA1 := XA_2.out.cell 1 _ rfl
  have cA2 := XA_2.out.cell 2 _ rfl
  have ltB := XB_2.out.lt
  have cB0 := XB_2.out.cell 0 _ rfl
  have cB1 := XB_2.out.cell 1 _ rfl
  have cB2 := XB_2.out.cell 2 _ rfl
  have ltR := XR_2.out.lt
  have cR0 := XR_2.out.cell 0 _ rfl
  have zR0 := XR_2.out.frozen 0
  have cR1 := XR_2.out.cell 1 _ rfl
  have zR1 := XR_2.out.frozen 1
  have cR2 := XR_2.out.cell 2 _ rfl
  have zR2 := XR_2.out.frozen 2
  have Rt_2 := hid hr1
  have lent := hr1.len
  have bdt : tn ≤ 20000 := by rw [← lent]; exact Nat.le_trans (prod_len len0 len3) (by omega)
  clear hb1 hr1
  have YA_2 := hid (bx_past XA_2.out (.cells #[.slice to tn tc] 74))
  have YB_2 := hid (bx_past XB_2.out (.cells #[.slice to tn tc] 74))
  have YR_2 := hid (bx_past XR_2.out (.cells #[.slice to tn tc] 74))
  have Yt_2 := hid (bx_new w1 #[.slice to tn tc] 74)
  have Q0_2 := hid (R0_2.out.alloc (.cells #[.slice to tn tc] 74))
  have Q1_2 := hid (R1_2.out.alloc (.cells #[.slice to tn tc] 74))
  have Q2_2 := hid (R2_2.out.alloc (.cells #[.slice to tn tc] 74))
  have Q3_2 := hid (R3_2.out.alloc (.cells #[.slice to tn tc] 74))
  have Qt_2 := hid (Rt_2.out.alloc (.cells #[.slice to tn tc] 74))
  have HC_2 : Hid (Below w.heap.size w (w1.alloc (.cells #[.slice to tn tc] 74))) := HB_2.out.alloc HB_2.out.size (.cells #[.slice to tn tc] 74)
  go_wp2_with fail
  refine (mul_any bo co m capb p capc (x.den) (y.num.natAbs) _ Q1_2.out Q2_2.out (by omega)).mono ?_
  rintro e2 w2 ⟨v2, rfl, ⟨ko, kn, kc, rfl, hr2⟩, hb2⟩
  have XA_3 := hid (YA_2.out.keep hb2)
  have XB_3 := hid (YB_2.out.keep hb2)
  have XR_3 := hid (YR_2.out.keep hb2)
  have Xt_3 := hid (Yt_2.out.keep hb2)
  have R0_3 := hid (Q0_2.out.below hb2)
  have R1_3 := hid (Q1_2.out.below hb2)
  have R2_3 := hid (Q2_2.out.below hb2)
  have R3_3 := hid (Q3_2.out.below hb2)
  have Rt_3 := hid (Qt_2.out.below hb2)
  have HB_3 : Hid (Below w.heap.size w w2) := HC_2.out.trans (hb2.mono HC_2.out.size)
  clear ltA cA0 cA1 cA2 ltB cB0 cB1 cB2 ltR cR0 zR0 cR1 zR1 cR2 zR2
  have ltA := XA_3.out.lt
  have cA0 := XA_3.out.cell 0 _ rfl
  have cA1 := XA_3.out.cell 1 _ rfl
  have cA2 := XA_3.out.cell 2 _ rfl
  have ltB := XB_3.out.lt
  have cB0 := XB_3.out.cell 0 _ rfl
  have cB1 := XB_3.out.cell 1 _ rfl
  have cB2 := XB_3.out.cell 2 _ rfl
  have ltR := XR_3.out.lt
  have cR0 := XR_3.out.cell 0 _ rfl
  have zR0 := XR_3.out.frozen 0
  have cR1 := XR_3.out.cell 1 _ rfl
  have zR1 := XR_3.out.frozen 1
  have cR2 := XR_3.out.cell 2 _ rfl
  have zR2 := XR_3.out.frozen 2
  have ltt := Xt_3.out.lt
  have ct0 := Xt_3.out.cell 0 _ rfl
  have Rk_3 := hid hr2
  have lenk := hr2.len
  have bdk : kn ≤ 20000 := by rw [← lenk]; exact Nat.le_trans (prod_len len1 len2) (by omega)
  clear hb2 hr2
  have YA_3 := hid (bx_past XA_3.out (.cells #[.slice ko kn kc] 74))
  have YB_3 := hid (bx_past XB_3.out (.cells #[.slice ko kn kc] 74))
  have YR_3 := hid (bx_past XR_3.out (.cells #[.slice ko kn kc] 74))
  have Yt_3 := hid (bx_past Xt_3.out (.cells #[.slice ko kn kc] 74))
  have Yk_3 := hid (bx_new w2 #[.slice ko kn kc] 74)
  have Q0_3 := hid (R0_3.out.alloc (.cells #[.slice ko kn kc] 74))
  have Q1_3 := hid (R1_3.out.alloc (.cells #[.slice ko kn kc] 74))
  have Q2_3 := hid (R2_3.out.alloc (.cells #[.slice ko kn kc] 74))
  have Q3_3 := hid (R3_3.out.alloc (.cells #[.slice ko kn kc] 74))
  have Qt_3 := hid (Rt_3.out.alloc (.cells #[.slice ko kn kc] 74))
  have Qk_3 := hid (Rk_3.out.alloc (.cells #[.slice ko kn kc] 74))
  have HC_3 : Hid (Below w.heap.size w (w2.alloc (.cells #[.slice ko kn kc] 74))) := HB_3.out.alloc HB_3.out.size (.cells #[.slice ko kn kc] 74)
  go_wp2_with fail
  refine (lowest_any (negB x != negB y) to ko tn tc kn kc (x.num.natAbs * y.den) (x.den * y.num.natAbs) _ Qt_3.out Qk_3.out (by omega) (by omega) (Nat.mul_ne_zero x.den_nz hn0.out)).mono ?_
  rintro e3 w3 ⟨v3, rfl, ⟨go, gn, gc, ho, hn, hc, rfl, hg, hh⟩, hb3⟩
  have XA_4 := hid (YA_3.out.keep hb3)
  have XB_4 := hid (YB_3.out.keep hb3)
  have XR_4 := hid (YR_3.out.keep hb3)
  have Xt_4 := hid (Yt_3.out.keep hb3)
  have Xk_4 := hid (Yk_3.out.keep hb3)
  have R0_4 := hid (Q0_3.out.below hb3)
  have R1_4 := hid (Q1_3.out.below hb3)
  have R2_4 := hid (Q2_3.out.below hb3)
  have R3_4 := hid (Q3_3.out.below hb3)
  have Rt_4 := hid (Qt_3.out.below hb3)
  have Rk_4 := hid (Qk_3.out.below hb3)
  have HB_4 : Hid (Below w.heap.size w w3) := HC_3.out.trans (hb3.mono HC_3.out.size)
  clear ltA cA0 cA1 cA2 ltB cB0 cB1 cB2 ltR cR0 zR0 cR1 zR1 cR2 zR2 ltt ct0
  have ltA := XA_4.out.lt
  have cA0 := XA_4.out.cell 0 _ rfl
  have cA1 := XA_4.out.cell 1 _ rfl
  have cA2 := XA_4.out.cell 2 _ rfl
  have ltB := XB_4.out.lt
  have cB0 := XB_4.out.cell 0 _ rfl
  have cB1 := XB_4.out.cell 1 _ rfl
  have cB2 := XB_4.out.cell 2 _ rfl
  have ltR := XR_4.out.lt
  have cR0 := XR_4.out.cell 0 _ rfl
  have zR0 := XR_4.out.frozen 0
  have cR1 := XR_4.out.cell 1 _ rfl
  have zR1 := XR_4.out.frozen 1
  have cR2 := XR_4.out.cell 2 _ rfl
  have zR2 := XR_4.out.frozen 2
  have ltt := Xt_4.out.lt
  have ct0 := Xt_4.out.cell 0 _ rfl
  have ltk := Xk_4.out.lt
  have ck0 := Xk_4.out.cell 0 _ rfl
  have HG := hid hg
  have HH := hid hh
  clear hb3 hg hh
  go_wp2
  have Z := XR_4.out.put3 (.bool (negB (mkRat (sg (negB x != negB y) (x.num.natAbs * y.den)) (x.den * y.num.natAbs)))) (.slice go gn gc) (.slice ho hn hc)
  have z0 := Z.cell 0 _ rfl
  have z1 := Z.cell 1 _ rfl
  have z2 := Z.cell 2 _ rfl
  unfold wput3 at z0 z1 z2
  refine bodyPost_ret (v := .tuple #[.agg #[.bool (negB (mkRat (sg (negB x != negB y) (x.num.natAbs * y.den)) (x.den * y.num.natAbs))), .slice go gn gc, .slice ho hn hc], .bool true]) (by simp [results, Tryd.results59, go_sem, z0, z1, z2]) rfl ⟨_, rfl, ?_, below_put3 HB_4.out (by omega) _ _ _⟩
  rw [div_sg x y hy.out]
  exact ⟨go, gn, gc, ho, hn, hc, rfl, HG.out.put3 XR_4.out (by decide) _ _ _, HH.out.put3 XR_4.out (by decide) _ _ _⟩

/-- -1, 0, 1: x below y, the same, above -/
def cmpQ (x y : Rat) : Int := if x < y then -1 else if x = y then 0 else 1

theorem lt_sg (x y : Rat) : x < y ↔ sg (negB x) (x.num.natAbs * y.den) < sg (negB y) (y.num.natAbs * x.den) := by
  have e : ∀ (m : Bool) (a b : Nat), sg m (a * b) = sg m a * b := by intro m a b; cases m <;> simp [sg, Int.neg_mul]
  rw [Rat.lt_iff, e, e, ← num_sg, ← num_sg]
theorem eq_sg (x y : Rat) : x = y ↔ sg (negB x) (x.num.natAbs * y.den) = sg (negB y) (y.num.natAbs * x.den) := by
  have e : ∀ (m : Bool) (a b : Nat), sg m (a * b) = sg m a * b := by intro m a b; cases m <;> simp [sg, Int.neg_mul]
  rw [e, e, ← num_sg, ← num_sg]
  have := @Rat.mkRat_eq_iff x.den y.den x.num y.num x.den_nz y.den_nz
  rwa [Rat.mkRat_self, Rat.mkRat_self] at this
theorem cmpQ_of (x y : Rat) (a b : Int) (hl : x < y ↔ a < b) (he : x = y ↔ a = b) : cmpQ x y = cmp3 a b := by
  unfold cmpQ cmp3
  by_cases h1 : a < b
  · rw [if_pos (hl.2 h1), if_pos h1]
  · rw [if_neg (fun h => h1 (hl.1 h)), if_neg h1]
    by_cases h2 : a = b
    · rw [if_pos (he.2 h2), if_pos h2]
    · rw [if_neg (fun h => h2 (he.1 h)), if_neg h2]
theorem cmp_pos (x y : Rat) (hx : negB x = false) (hy : negB y = false) : cmpQ x y = cmp3 ((x.num.natAbs * y.den : Nat) : Int) ((y.num.natAbs * x.den : Nat) : Int) := by
  have hl := lt_sg x y
  have he := eq_sg x y
  rw [hx, hy] at hl he
  exact cmpQ_of x y _ _ hl he
theorem cmp_neg (x y : Rat) (hx : negB x = true) (hy : negB y = true) : cmpQ x y = cmp3 ((y.num.natAbs * x.den : Nat) : Int) ((x.num.natAbs * y.den : Nat) : Int) := by
  have hl := lt_sg x y
  have he := eq_sg x y
  rw [hx, hy] at hl he
  simp only [sg, if_true] at hl he
  exact cmpQ_of x y _ _ (by rw [hl]; omega) (by rw [he]; omega)
theorem negB_iff (x : Rat) : negB x = true ↔ x < 0 := by
  unfold negB
  rw [decide_eq_true_iff, Rat.lt_iff]; simp
theorem cmp_np (x y : Rat) (hx : negB x = true) (hy : negB y = false) : cmpQ x y = -1 := by
  have h : x < y := by
    unfold negB at hx hy
    rw [decide_eq_true_iff] at hx
    rw [decide_eq_false_iff_not] at hy
    rw [Rat.lt_iff]
    have h1 : x.num * (y.den : Int) < 0 := Int.mul_neg_of_neg_of_pos hx (by have := den_pos y; omega)
    have h2 : 0 ≤ y.num * (x.den : Int) := Int.mul_nonneg (by omega) (by omega)
    omega
  unfold cmpQ; rw [if_pos h]
theorem cmp_pn (x y : Rat) (hx : negB x = false) (hy : negB y = true) : cmpQ x y = 1 := by
  have h : y < x := by
    unfold negB at hx hy
    rw [decide_eq_true_iff] at hy
    rw [decide_eq_false_iff_not] at hx
    rw [Rat.lt_iff]
    have h1 : y.num * (x.den : Int) < 0 := Int.mul_neg_of_neg_of_pos hy (by have := den_pos x; omega)
    have h2 : 0 ≤ x.num * (y.den : Int) := Int.mul_nonneg (by omega) (by omega)
    omega
  unfold cmpQ
  rw [if_neg (by intro hc; rw [Rat.lt_iff] at h hc; omega), if_neg (by intro hc; rw [hc] at h; exact Rat.lt_irrefl h)]

set_option maxHeartbeats 2000000 in
set_option maxRecDepth 20000 in
theorem rcmp_np (ao bo co eo : Option Addr) (n capa m capb p capc q capd : Nat) (x y : Rat) (w : World) (h1 : Row w ao n capa (limbs x.num.natAbs)) (h2 : Row w bo m capb (limbs x.den)) (h3 : Row w co p capc (limbs y.num.natAbs)) (h4 : Row w eo q capd (limbs y.den)) (b1 : n ≤ 10000) (b2 : m ≤ 10000) (b3 : p ≤ 10000) (b4 : q ≤ 10000) (hx : negB x = true) (hy : negB y = false) :
    Calls Tryd.prog 60 #[.agg #[.bool (negB x), .slice ao n capa, .slice bo m capb], .agg #[.bool (negB y), .slice co p capc, .slice eo q capd]] w fun e w' => e = .returned (.int .i64 (cmpQ x y)) ∧ Below w.heap.size w w' := by
  have he := hid (cmp_np x y hx hy)
  rw [hx, hy]
  clear hx hy
  obtain ⟨c1, c2, c5⟩ := boxes2 w #[.bool (true), .slice ao n capa, .slice bo m capb] #[.bool (false), .slice co p capc, .slice eo q capd] 76 76
  have R0_0 := hid (h1.below c5)
  have len0 := h1.len
  have R1_0 := hid (h2.below c5)
  have len1 := h2.len
  have R2_0 := hid (h3.below c5)
  have len2 := h3.len
  have R3_0 := hid (h4.below c5)
  have len3 := h4.len
  have XA_0 := hid c1
  have XB_0 := hid c2
  have HB_0 := hid c5
  clear h1 h2 h3 h4 c1 c2 c5
  go_enter Tryd.func60, Tryd.ntmps60
  go_wp2
  go_ret
  exact ⟨by rw [he.out]; rfl, HB_0.out⟩

set_option maxHeartbeats 2000000 in
set_option maxRecDepth 20000 in
theorem rcmp_pn (ao bo co eo : Option Addr) (n capa m capb p capc q capd : Nat) (x y : Rat) (w : World) (h1 : Row w ao n capa (limbs x.num.natAbs)) (h2 : Row w bo m capb (limbs x.den)) (h3 : Row w co p capc (limbs y.num.natAbs)) (h4 : Row w eo q capd (limbs y.den)) (b1 : n ≤ 10000) (b2 : m ≤ 10000) (b3 : p ≤ 10000) (b4 : q ≤ 10000) (hx : negB x = false) (hy : negB y = true) :
    Calls Tryd.prog 60 #[.agg #[.bool (negB x), .slice ao n capa, .slice bo m capb], .agg #[.bool (negB y), .slice co p capc, .slice eo q capd]] w fun e w' => e = .returned (.int .i64 (cmpQ x y)) ∧ Below w.heap.size w w' := by
  have he := hid (cmp_pn x y hx hy)
  rw [hx, hy]
  clear hx hy
  obtain ⟨c1, c2, c5⟩ := boxes2 w #[.bool (false), .slice ao n capa, .slice bo m capb] #[.bool (true), .slice co p capc, .slice eo q capd] 76 76
  have R0_0 := hid (h1.below c5)
  have len0 := h1.len
  have R1_0 := hid (h2.below c5)
  have len1 := h2.len
  have R2_0 := hid (h3.below c5)
  have len2 := h3.len
  have R3_0 := hid (h4.below c5)
  have len3 := h4.len
  have XA_0 := hid c1
  have XB_0 := hid c2
  have HB_0 := hid c5
  clear h1 h2 h3 h4 c1 c2 c5
  go_enter Tryd.func60, Tryd.ntmps60
  go_wp2
  go_ret
  exact ⟨by rw [he.out]; rfl, HB_0.out⟩

set_option maxHeartbeats 2000000 in
set_option maxRecDepth 20000 in
theorem rcmp_pos (ao bo co eo : Option Addr) (n capa m capb p capc q capd : Nat) (x y : Rat) (w : World) (h1 : Row w ao n capa (limbs x.num.natAbs)) (h2 : Row w bo m capb (limbs x.den)) (h3 : Row w co p capc (limbs y.num.natAbs)) (h4 : Row w eo q capd (limbs y.den)) (b1 : n ≤ 10000) (b2 : m ≤ 10000) (b3 : p ≤ 10000) (b4 : q ≤ 10000) (hx : negB x = false) (hy : negB y = false) :
    Calls Tryd.prog 60 #[.agg #[.bool (negB x), .slice ao n capa, .slice bo m capb], .agg #[.bool (negB y), .slice co p capc, .slice eo q capd]] w fun e w' => e = .returned (.int .i64 (cmpQ x y)) ∧ Below w.heap.size w w' := by
  have he := hid (cmp_pos x y hx hy)
  rw [hx, hy]
  clear hx hy
  obtain ⟨c1, c2, c5⟩ := boxes2 w #[.bool (false), .slice ao n capa, .slice bo m capb] #[.bool (false), .slice co p capc, .slice eo q capd] 76 76
  have R0_0 := hid (h1.below c5)
  have len0 := h1.len
  have R1_0 := hid (h2.below c5)
  have len1 := h2.len
  have R2_0 := hid (h3.below c5)
  have len2 := h3.len
  have R3_0 := hid (h4.below c5)
  have len3 := h4.len
  have XA_0 := hid c1
  have XB_0 := hid c2
  have HB_0 := hid c5
  clear h1 h2 h3 h4 c1 c2 c5
  go_enter Tryd.func60, Tryd.ntmps60
  go_wp2_with fail
  refine (mul_any ao eo n capa q capd (x.num.natAbs) (y.den) _ R0_0.out R3_0.out (by omega)).mono ?_
  rintro e0 w0 ⟨v0, rfl, ⟨lo, ln, lc, rfl, hr0⟩, hb0⟩
  have XA_1 := hid (XA_0.out.keep hb0)
  have XB_1 := hid (XB_0.out.keep hb0)
  have R0_1 := hid (R0_0.out.below hb0)
  have R1_1 := hid (R1_0.out.below hb0)
  have R2_1 := hid (R2_0.out.below hb0)
  have R3_1 := hid (R3_0.out.below hb0)
  have HB_1 : Hid (Below w.heap.size w w0) := HB_0.out.trans (hb0.mono HB_0.out.size)
  have ltA := XA_1.out.lt
  have cA0 := XA_1.out.cell 0 _ rfl
  have cA1 := XA_1.out.cell 1 _ rfl
  have cA2 := XA_1.out.cell 2 _ rfl
  have ltB := XB_1.out.lt
  have cB0 := XB_1.out.cell 0 _ rfl
  have cB1 := XB_1.out.cell 1 _ rfl
  have cB2 := XB_1.out.cell 2 _ rfl
  have Rl_1 := hid hr0
  have lenl := hr0.len
  have bdl : ln ≤ 20000 := by rw [← lenl]; exact Nat.le_trans (prod_len len0 len3) (by omega)
  clear hb0 hr0
  have YA_1 := hid (bx_past XA_1.out (.cells #[.slice lo ln lc] 74))
  have YB_1 := hid (bx_past XB_1.out (.cells #[.slice lo ln lc] 74))
  have Yl_1 := hid (bx_new w0 #[.slice lo ln lc] 74)
  have Q0_1 := hid (R0_1.out.alloc (.cells #[.slice lo ln lc] 74))
  have Q1_1 := hid (R1_1.out.alloc (.cells #[.slice lo ln lc] 74))
  have Q2_1 := hid (R2_1.out.alloc (.cells #[.slice lo ln lc] 74))
  have Q3_1 := hid (R3_1.out.alloc (.cells #[.slice lo ln lc] 74))
  have Ql_1 := hid (Rl_1.out.alloc (.cells #[.slice lo ln lc] 74))
  have HC_1 : Hid (Below w.heap.size w (w0.alloc (.cells #[.slice lo ln lc] 74))) := HB_1.out.alloc HB_1.out.size (.cells #[.slice lo ln lc] 74)
  go_wp2_with fail
  refine (mul_any co bo p capc m capb (y.num.natAbs) (x.den) _ Q2_1.out Q1_1.out (by omega)).mono ?_
  rintro e1 w1 ⟨v1, rfl, ⟨so, sn, sc, rfl, hr1⟩, hb1⟩
  have XA_2 := hid (YA_1.out.keep hb1)
  have XB_2 := hid (YB_1.out.keep hb1)
  have Xl_2 := hid (Yl_1.out.keep hb1)
  have R0_2 := hid (Q0_1.out.below hb1)
  have R1_2 := hid (Q1_1.out.below hb1)
  have R2_2 := hid (Q2_1.out.below hb1)
  have R3_2 := hid (Q3_1.out.below hb1)
  have Rl_2 := hid (Ql_1.out.below hb1)
  have HB_2 : Hid (Below w.heap.size w w1) := HC_1.out.trans (hb1.mono HC_1.out.size)
  clear ltA cA0 cA1 cA2 ltB cB0 cB1 cB2
  have ltA := XA_2.out.lt
  have cA0 := XA_2.out.cell 0 _ rfl
  have cA1 := XA_2.out.cell 1 _ rfl
  have cA2 := XA_2.out.cell 2 _ rfl
  have ltB := XB_2.out.lt
  have cB0 := XB_2.out.cell 0 _ rfl
  have cB1 := XB_2.out.cell 1 _ rfl
  have cB2 := XB_2.out.cell 2 _ rfl
  have ltl := Xl_2.out.lt
  have cl0 := Xl_2.out.cell 0 _ rfl
  have Rs_2 := hid hr1
  have lens := hr1.len
  have bds : sn ≤ 20000 := by rw [← lens]; exact Nat.le_trans (prod_len len2 len1) (by omega)
  clear hb1 hr1
  have YA_2 := hid (bx_past XA_2.out (.cells #[.slice so sn sc] 74))
  have YB_2 := hid (bx_past XB_2.out (.cells #[.slice so sn sc] 74))
  have Yl_2 := hid (bx_past Xl_2.out (.cells #[.slice so sn sc] 74))
  have Ys_2 := hid (bx_new w1 #[.slice so sn sc] 74)
  have Q0_2 := hid (R0_2.out.alloc (.cells #[.slice so sn sc] 74))
  have Q1_2 := hid (R1_2.out.alloc (.cells #[.slice so sn sc] 74))
  have Q2_2 := hid (R2_2.out.alloc (.cells #[.slice so sn sc] 74))
  have Q3_2 := hid (R3_2.out.alloc (.cells #[.slice so sn sc] 74))
  have Ql_2 := hid (Rl_2.out.alloc (.cells #[.slice so sn sc] 74))
  have Qs_2 := hid (Rs_2.out.alloc (.cells #[.slice so sn sc] 74))
  have HC_2 : Hid (Below w.heap.size w (w1.alloc (.cells #[.slice so sn sc] 74))) := HB_2.out.alloc HB_2.out.size (.cells #[.slice so sn sc] 74)
  go_wp2_with fail
  refine (compare_any lo so ln lc sn sc (x.num.natAbs * y.den) (y.num.natAbs * x.den) _ Ql_2.out Qs_2.out (by omega) (by omega)).mono ?_
  rintro e2 w2 ⟨rfl, hb2⟩
  have XA_3 := hid (YA_2.out.keep hb2)
  have XB_3 := hid (YB_2.out.keep hb2)
  have Xl_3 := hid (Yl_2.out.keep hb2)
  have Xs_3 := hid (Ys_2.out.keep hb2)
  have R0_3 := hid (Q0_2.out.below hb2)
  have R1_3 := hid (Q1_2.out.below hb2)
  have R2_3 := hid (Q2_2.out.below hb2)
  have R3_3 := hid (Q3_2.out.below hb2)
  have Rl_3 := hid (Ql_2.out.below hb2)
  have Rs_3 := hid (Qs_2.out.below hb2)
  have HB_3 : Hid (Below w.heap.size w w2) := HC_2.out.trans (hb2.mono HC_2.out.size)
  clear ltA cA0 cA1 cA2 ltB cB0 cB1 cB2 ltl cl0
  have ltA := XA_3.out.lt
  have cA0 := XA_3.out.cell 0 _ rfl
  have cA1 := XA_3.out.cell 1 _ rfl
  have cA2 := XA_3.out.cell 2 _ rfl
  have ltB := XB_3.out.lt
  have cB0 := XB_3.out.cell 0 _ rfl
  have cB1 := XB_3.out.cell 1 _ rfl
  have cB2 := XB_3.out.cell 2 _ rfl
  have ltl := Xl_3.out.lt
  have cl0 := Xl_3.out.cell 0 _ rfl
  have lts := Xs_3.out.lt
  have cs0 := Xs_3.out.cell 0 _ rfl
  rw [← he.out]
  clear hb2
  go_wp2
  go_ret
  exact ⟨rfl, HB_3.out⟩

set_option maxHeartbeats 2000000 in
set_option maxRecDepth 20000 in
theorem rcmp_neg (ao bo co eo : Option Addr) (n capa m capb p capc q capd : Nat) (x y : Rat) (w : World) (h1 : Row w ao n capa (limbs x.num.natAbs)) (h2 : Row w bo m capb (limbs x.den)) (h3 : Row w co p capc (limbs y.num.natAbs)) (h4 : Row w eo q capd (limbs y.den)) (b1 : n ≤ 10000) (b2 : m ≤ 10000) (b3 : p ≤ 10000) (b4 : q ≤ 10000) (hx : negB x = true) (hy : negB y = true) :
    Calls Tryd.prog 60 #[.agg #[.bool (negB x), .slice ao n capa, .slice bo m capb], .agg #[.bool (negB y), .slice co p capc, .slice eo q capd]] w fun e w' => e = .returned (.int .i64 (cmpQ x y)) ∧ Below w.heap.size w w' := by
  have he := hid (cmp_neg x y hx hy)
  rw [hx, hy]
  clear hx hy
  obtain ⟨c1, c2, c5⟩ := boxes2 w #[.bool (true), .slice ao n capa, .slice bo m capb] #[.bool (true), .slice co p capc, .slice eo q capd] 76 76
  have R0_0 := hid (h1.below c5)
  have len0 := h1.len
  have R1_0 := hid (h2.below c5)
  have len1 := h2.len
  have R2_0 := hid (h3.below c5)
  have len2 := h3.len
  have R3_0 := hid (h4.below c5)
  have len3 := h4.len
  have XA_0 := hid c1
  have XB_0 := hid c2
  have HB_0 := hid c5
  clear h1 h2 h3 h4 c1 c2 c5
  go_enter Tryd.func60, Tryd.ntmps60
  go_wp2_with fail
  refine (mul_any ao eo n capa q capd (x.num.natAbs) (y.den) _ R0_0.out R3_0.out (by omega)).mono ?_
  rintro e0 w0 ⟨v0, rfl, ⟨lo, ln, lc, rfl, hr0⟩, hb0⟩
  have XA_1 := hid (XA_0.out.keep hb0)
  have XB_1 := hid (XB_0.out.keep hb0)
  have R0_1 := hid (R0_0.out.below hb0)
  have R1_1 := hid (R1_0.out.below hb0)
  have R2_1 := hid (R2_0.out.below hb0)
  have R3_1 := hid (R3_0.out.below hb0)
  have HB_1 : Hid (Below w.heap.size w w0) := HB_0.out.trans (hb0.mono HB_0.out.size)
  have ltA := XA_1.out.lt
  have cA0 := XA_1.out.cell 0 _ rfl
  have cA1 := XA_1.out.cell 1 _ rfl
  have cA2 := XA_1.out.cell 2 _ rfl
  have ltB := XB_1.out.lt
  have cB0 := XB_1.out.cell 0 _ rfl
  have cB1 := XB_1.out.cell 1 _ rfl
  have cB2 := XB_1.out.cell 2 _ rfl
  have Rl_1 := hid hr0
  have lenl := hr0.len
  have bdl : ln ≤ 20000 := by rw [← lenl]; exact Nat.le_trans (prod_len len0 len3) (by omega)
  clear hb0 hr0
  have YA_1 := hid (bx_past XA_1.out (.cells #[.slice lo ln lc] 74))
  have YB_1 := hid (bx_past XB_1.out (.cells #[.slice lo ln lc] 74))
  have Yl_1 := hid (bx_new w0 #[.slice lo ln lc] 74)
  have Q0_1 := hid (R0_1.out.alloc (.cells #[.slice lo ln lc] 74))
  have Q1_1 := hid (R1_1.out.alloc (.cells #[.slice lo ln lc] 74))
  have Q2_1 := hid (R2_1.out.alloc (.cells #[.slice lo ln lc] 74))
  have Q3_1 := hid (R3_1.out.alloc (.cells #[.slice lo ln lc] 74))
  have Ql_1 := hid (Rl_1.out.alloc (.cells #[.slice lo ln lc] 74))
  have HC_1 : Hid (Below w.heap.size w (w0.alloc (.cells #[.slice lo ln lc] 74))) := HB_1.out.alloc HB_1.out.size (.cells #[.slice lo ln lc] 74)
  go_wp2_with fail
  refine (mul_any co bo p capc m capb (y.num.natAbs) (x.den) _ Q2_1.out Q1_1.out (by omega)).mono ?_
  rintro e1 w1 ⟨v1, rfl, ⟨so, sn, sc, rfl, hr1⟩, hb1⟩
  have XA_2 := hid (YA_1.out.keep hb1)
  have XB_2 := hid (YB_1.out.keep hb1)
  have Xl_2 := hid (Yl_1.out.keep hb1)
  have R0_2 := hid (Q0_1.out.below hb1)
  have R1_2 := hid (Q1_1.out.below hb1)
  have R2_2 := hid (Q2_1.out.below hb1)
  have R3_2 := hid (Q3_1.out.below hb1)
  have Rl_2 := hid (Ql_1.out.below hb1)
  have HB_2 : Hid (Below w.heap.size w w1) := HC_1.out.trans (hb1.mono HC_1.out.size)
  clear ltA cA0 cA1 cA2 ltB cB0 cB1 cB2
  have ltA := XA_2.out.lt
  have cA0 := XA_2.out.cell 0 _ rfl
  have cA1 := XA_2.out.cell 1 _ rfl
  have cA2 := XA_2.out.cell 2 _ rfl
  have ltB := XB_2.out.lt
  have cB0 := XB_2.out.cell 0 _ rfl
  have cB1 := XB_2.out.cell 1 _ rfl
  have cB2 := XB_2.out.cell 2 _ rfl
  have ltl := Xl_2.out.lt
  have cl0 := Xl_2.out.cell 0 _ rfl
  have Rs_2 := hid hr1
  have lens := hr1.len
  have bds : sn ≤ 20000 := by rw [← lens]; exact Nat.le_trans (prod_len len2 len1) (by omega)
  clear hb1 hr1
  have YA_2 := hid (bx_past XA_2.out (.cells #[.slice so sn sc] 74))
  have YB_2 := hid (bx_past XB_2.out (.cells #[.slice so sn sc] 74))
  have Yl_2 := hid (bx_past Xl_2.out (.cells #[.slice so sn sc] 74))
  have Ys_2 := hid (bx_new w1 #[.slice so sn sc] 74)
  have Q0_2 := hid (R0_2.out.alloc (.cells #[.slice so sn sc] 74))
  have Q1_2 := hid (R1_2.out.alloc (.cells #[.slice so sn sc] 74))
  have Q2_2 := hid (R2_2.out.alloc (.cells #[.slice so sn sc] 74))
  have Q3_2 := hid (R3_2.out.alloc (.cells #[.slice so sn sc] 74))
  have Ql_2 := hid (Rl_2.out.alloc (.cells #[.slice so sn sc] 74))
  have Qs_2 := hid (Rs_2.out.alloc (.cells #[.slice so sn sc] 74))
  have HC_2 : Hid (Below w.heap.size w (w1.alloc (.cells #[.slice so sn sc] 74))) := HB_2.out.alloc HB_2.out.size (.cells #[.slice so sn sc] 74)
  go_wp2_with fail
  refine (compare_any so lo sn sc ln lc (y.num.natAbs * x.den) (x.num.natAbs * y.den) _ Qs_2.out Ql_2.out (by omega) (by omega)).mono ?_
  rintro e2 w2 ⟨rfl, hb2⟩
  have XA_3 := hid (YA_2.out.keep hb2)
  have XB_3 := hid (YB_2.out.keep hb2)
  have Xl_3 := hid (Yl_2.out.keep hb2)
  have Xs_3 := hid (Ys_2.out.keep hb2)
  have R0_3 := hid (Q0_2.out.below hb2)
  have R1_3 := hid (Q1_2.out.below hb2)
  have R2_3 := hid (Q2_2.out.below hb2)
  have R3_3 := hid (Q3_2.out.below hb2)
  have Rl_3 := hid (Ql_2.out.below hb2)
  have Rs_3 := hid (Qs_2.out.below hb2)
  have HB_3 : Hid (Below w.heap.size w w2) := HC_2.out.trans (hb2.mono HC_2.out.size)
  clear ltA cA0 cA1 cA2 ltB cB0 cB1 cB2 ltl cl0
  have ltA := XA_3.out.lt
  have cA0 := XA_3.out.cell 0 _ rfl
  have cA1 := XA_3.out.cell 1 _ rfl
  have cA2 := XA_3.out.cell 2 _ rfl
  have ltB := XB_3.out.lt
  have cB0 := XB_3.out.cell 0 _ rfl
  have cB1 := XB_3.out.cell 1 _ rfl
  have cB2 := XB_3.out.cell 2 _ rfl
  have ltl := Xl_3.out.lt
  have cl0 := Xl_3.out.cell 0 _ rfl
  have lts := Xs_3.out.lt
  have cs0 := Xs_3.out.cell 0 _ rfl
  rw [← he.out]
  clear hb2
  go_wp2
  go_ret
  exact ⟨rfl, HB_3.out⟩

theorem rcmp_any (ao bo co eo : Option Addr) (n capa m capb p capc q capd : Nat) (x y : Rat) (w : World) (h1 : Row w ao n capa (limbs x.num.natAbs)) (h2 : Row w bo m capb (limbs x.den)) (h3 : Row w co p capc (limbs y.num.natAbs)) (h4 : Row w eo q capd (limbs y.den)) (b1 : n ≤ 10000) (b2 : m ≤ 10000) (b3 : p ≤ 10000) (b4 : q ≤ 10000) :
    Calls Tryd.prog 60 #[.agg #[.bool (negB x), .slice ao n capa, .slice bo m capb], .agg #[.bool (negB y), .slice co p capc, .slice eo q capd]] w fun e w' => e = .returned (.int .i64 (cmpQ x y)) ∧ Below w.heap.size w w' := by
  cases hx : negB x <;> cases hy : negB y
  · have := rcmp_pos ao bo co eo n capa m capb p capc q capd x y w h1 h2 h3 h4 b1 b2 b3 b4 hx hy; rwa [hx, hy] at this
  · have := rcmp_pn ao bo co eo n capa m capb p capc q capd x y w h1 h2 h3 h4 b1 b2 b3 b4 hx hy; rwa [hx, hy] at this
  · have := rcmp_np ao bo co eo n capa m capb p capc q capd x y w h1 h2 h3 h4 b1 b2 b3 b4 hx hy; rwa [hx, hy] at this
  · have := rcmp_neg ao bo co eo n capa m capb p capc q capd x y w h1 h2 h3 h4 b1 b2 b3 b4 hx hy; rwa [hx, hy] at this
end Go.Proofs.YtddbflggcblfcaaDoor
