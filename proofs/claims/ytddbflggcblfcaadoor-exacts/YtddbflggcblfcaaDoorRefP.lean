/- portionref.Add, Subtract, order, Compare: of any texts that are fractions, and of others. (Laid by mkrefp.py.) -/
import Derived.Test.YtddbflggcblfcaaDoorRefO
import Derived.Test.YtddbflggcblfcaaDoorWExB
import Derived.Test.YtddbflggcblfcaaDoorWRatC
namespace Go.Proofs.YtddbflggcblfcaaDoor
set_option linter.unusedSimpArgs false
set_option linter.unusedVariables false
open Go.RowKit Por

theorem sg_not (m : Bool) (x : Nat) : sg (!m) x = -sg m x := by cases m <;> simp [sg]
theorem sg_scale (m : Bool) (a b : Nat) : sg m (a * b) = sg m a * b := by cases m <;> simp [sg, Int.neg_mul]
theorem sg_of (q : Rat) (k : Nat) : sg (negB q) (q.num.natAbs * k) = q.num * k := by rw [sg_scale, ← num_sg]
theorem sub_sg (x y : Rat) : x - y = mkRat (sg (negB x) (x.num.natAbs * y.den) + sg (!negB y) (y.num.natAbs * x.den)) (x.den * y.den) := by
  have e1 : (-y).num = -y.num := rfl
  have e2 : (-y).den = y.den := rfl
  rw [Rat.sub_eq_add_neg, add_sg, sg_of (-y), e1, e2, sg_not, sg_of y, Int.neg_mul]
/-- the number of limbs of a sum of two products -/
theorem sum_small {p1 q1 p2 q2 z : Nat} (h1 : (limbs p1).length ≤ 300) (h2 : (limbs q1).length ≤ 300) (h3 : (limbs p2).length ≤ 300) (h4 : (limbs q2).length ≤ 300) (hz : z ≤ p1 * q2 + p2 * q1) : (limbs z).length ≤ 601 := by
  have l1 := len_mul p1 q2
  have l2 := len_mul p2 q1
  have l3 := len_add (p1 * q2) (p2 * q1)
  have l4 := len_mono hz
  omega
theorem den_ne (x y : Rat) : x.den * y.den ≠ 0 := Nat.mul_ne_zero x.den_nz y.den_nz
theorem ord_cmp {x y : Rat} {m : Bool} {z : Nat} (h : sg m z = sg (negB x) (x.num.natAbs * y.den) + sg (!negB y) (y.num.natAbs * x.den)) :
    cmpQ x y = if z = 0 then 0 else if m then -1 else 1 := by
  rw [cmpQ_of x y _ _ (lt_sg x y) (eq_sg x y)]
  rw [sg_not] at h
  unfold cmp3
  by_cases hz : z = 0
  · rw [if_pos hz]
    rw [hz] at h
    have : sg m 0 = 0 := by cases m <;> rfl
    rw [if_neg (by omega), if_pos (by omega)]
  · rw [if_neg hz]
    cases m with
    | true =>
      have : sg true z = -(z : Int) := rfl
      rw [if_pos rfl, if_pos (by omega)]
    | false =>
      have : sg false z = (z : Int) := rfl
      rw [if_neg (show ¬ (false = true) by simp), if_neg (by omega), if_neg (by omega)]

set_option maxHeartbeats 2000000 in
set_option maxRecDepth 20000 in
theorem pAdd_yes (a b : ByteArray) (w : World) (x y : Rat) (hx : Hid (readL a.data.toList = some x)) (hy : Hid (readL b.data.toList = some y)) :
    Calls Tryd.prog 11 #[.string a, .string b] w fun e w' => e = .returned (.tuple #[.string ⟨(txt (x + y)).toArray⟩, .int .i64 0]) ∧ Below w.heap.size w w' := by
  have sx := readL_small hx.out
  have sy := readL_small hy.out
  go_enter Tryd.func11, Tryd.ntmps11
  go_wp2_with fail
  refine (ptwo_yes a b _ x y hx hy).mono ?_
  rintro e0 w0 ⟨u, v, rfl, ⟨ao, n, capa, bo, m, capb, rfl, hr1, hr2⟩, ⟨co, p, capc, eo, q, capd, rfl, hr3, hr4⟩, hb0⟩
  obtain ⟨c1, c2, c5⟩ := boxes2 w0 #[.bool (negB x), .slice ao n capa, .slice bo m capb] #[.bool (negB y), .slice co p capc, .slice eo q capd] 82 82
  have b1 : n ≤ 300 := by have := hr1.len; have := sx.1; omega
  have b2 : m ≤ 300 := by have := hr2.len; have := sx.2; omega
  have b3 : p ≤ 300 := by have := hr3.len; have := sy.1; omega
  have b4 : q ≤ 300 := by have := hr4.len; have := sy.2; omega
  have XA_0 := hid c1
  have XB_0 := hid c2
  have R0_0 := hid (hr1.below c5)
  have R1_0 := hid (hr2.below c5)
  have R2_0 := hid (hr3.below c5)
  have R3_0 := hid (hr4.below c5)
  have HB_0 : Hid (Below w.heap.size w _) := hb0.trans (c5.mono hb0.size)
  have SX := hid sx
  have SY := hid sy
  clear hb0 c1 c2 c5 hr1 hr2 hr3 hr4 sx sy
  have ltA := XA_0.out.lt
  have cA0 := XA_0.out.cell 0 _ rfl
  have cA1 := XA_0.out.cell 1 _ rfl
  have cA2 := XA_0.out.cell 2 _ rfl
  have ltB := XB_0.out.lt
  have cB0 := XB_0.out.cell 0 _ rfl
  have cB1 := XB_0.out.cell 1 _ rfl
  have cB2 := XB_0.out.cell 2 _ rfl
  go_wp2_with fail
  refine (psum_any (negB x) (negB y) ao bo co eo n capa m capb p capc q capd x.num.natAbs x.den y.num.natAbs y.den _ R0_0.out R1_0.out R2_0.out R3_0.out (by omega) (by omega) (by omega) (by omega)).mono ?_
  rintro e2 w2 ⟨v2, mz, z, rfl, hz, hzl, ⟨go, gn, gc, ho, hn, hc, rfl, hg2, hh2⟩, hb2⟩
  have XA_3 := hid (XA_0.out.keep hb2)
  have XB_3 := hid (XB_0.out.keep hb2)
  have R0_3 := hid (R0_0.out.below hb2)
  have R1_3 := hid (R1_0.out.below hb2)
  have R2_3 := hid (R2_0.out.below hb2)
  have R3_3 := hid (R3_0.out.below hb2)
  have HB_3 : Hid (Below w.heap.size w w2) := HB_0.out.trans (hb2.mono HB_0.out.size)
  clear ltA cA0 cA1 cA2 ltB cB0 cB1 cB2
  have ltA := XA_3.out.lt
  have cA0 := XA_3.out.cell 0 _ rfl
  have cA1 := XA_3.out.cell 1 _ rfl
  have cA2 := XA_3.out.cell 2 _ rfl
  have ltB := XB_3.out.lt
  have cB0 := XB_3.out.cell 0 _ rfl
  have cB1 := XB_3.out.cell 1 _ rfl
  have cB2 := XB_3.out.cell 2 _ rfl
  have HZ := hid hz
  have lg : gn ≤ 601 := by rw [← hg2.len]; exact sum_small SX.out.1 SX.out.2 SY.out.1 SY.out.2 hzl
  have lh : hn ≤ 600 := by rw [← hh2.len]; exact Nat.le_trans (len_mul _ _) (by have := SX.out.2; have := SY.out.2; omega)
  have leng := hg2.len
  have Rg1_3 := hid hg2
  have Rg2_3 := hid hh2
  clear hb2 hg2 hh2 hz hzl
  clear ltA cA0 cA1 cA2 ltB cB0 cB1 cB2
  have Yg_3 := hid (bx_new w2 #[.bool mz, .slice go gn gc, .slice ho hn hc] 82)
  have Qg1_3 := hid (Rg1_3.out.alloc (.cells #[.bool mz, .slice go gn gc, .slice ho hn hc] 82))
  have Qg2_3 := hid (Rg2_3.out.alloc (.cells #[.bool mz, .slice go gn gc, .slice ho hn hc] 82))
  have HC_3 : Hid (Below w.heap.size w (w2.alloc (.cells #[.bool mz, .slice go gn gc, .slice ho hn hc] 82))) := HB_3.out.alloc HB_3.out.size (.cells #[.bool mz, .slice go gn gc, .slice ho hn hc] 82)
  go_wp2_with fail
  refine (ptext_any mz go ho gn gc hn hc z (x.den * y.den) _ Qg1_3.out Qg2_3.out (by omega) (by omega) (den_ne x y)).mono ?_
  rintro e3 w3 ⟨rfl, hb3⟩
  have Xg_4 := hid (Yg_3.out.keep hb3)
  have Rg1_4 := hid (Qg1_3.out.below hb3)
  have Rg2_4 := hid (Qg2_3.out.below hb3)
  have HB_4 : Hid (Below w.heap.size w w3) := HC_3.out.trans (hb3.mono HC_3.out.size)
  have ltg := Xg_4.out.lt
  have cg0 := Xg_4.out.cell 0 _ rfl
  have cg1 := Xg_4.out.cell 1 _ rfl
  have cg2 := Xg_4.out.cell 2 _ rfl
  clear hb3
  rw [HZ.out, ← add_sg x y]
  go_wp2
  go_ret2
  exact ⟨rfl, HB_4.out⟩

set_option maxHeartbeats 2000000 in
set_option maxRecDepth 20000 in
theorem pSubtract_yes (a b : ByteArray) (w : World) (x y : Rat) (hx : Hid (readL a.data.toList = some x)) (hy : Hid (readL b.data.toList = some y)) :
    Calls Tryd.prog 13 #[.string a, .string b] w fun e w' => e = .returned (.tuple #[.string ⟨(txt (x - y)).toArray⟩, .int .i64 0]) ∧ Below w.heap.size w w' := by
  have sx := readL_small hx.out
  have sy := readL_small hy.out
  go_enter Tryd.func13, Tryd.ntmps13
  go_wp2_with fail
  refine (ptwo_yes a b _ x y hx hy).mono ?_
  rintro e0 w0 ⟨u, v, rfl, ⟨ao, n, capa, bo, m, capb, rfl, hr1, hr2⟩, ⟨co, p, capc, eo, q, capd, rfl, hr3, hr4⟩, hb0⟩
  obtain ⟨c1, c2, c5⟩ := boxes2 w0 #[.bool (negB x), .slice ao n capa, .slice bo m capb] #[.bool (!negB y), .slice co p capc, .slice eo q capd] 82 82
  have b1 : n ≤ 300 := by have := hr1.len; have := sx.1; omega
  have b2 : m ≤ 300 := by have := hr2.len; have := sx.2; omega
  have b3 : p ≤ 300 := by have := hr3.len; have := sy.1; omega
  have b4 : q ≤ 300 := by have := hr4.len; have := sy.2; omega
  have XA_0 := hid c1
  have XB_0 := hid c2
  have R0_0 := hid (hr1.below c5)
  have R1_0 := hid (hr2.below c5)
  have R2_0 := hid (hr3.below c5)
  have R3_0 := hid (hr4.below c5)
  have HB_0 : Hid (Below w.heap.size w _) := hb0.trans (c5.mono hb0.size)
  have SX := hid sx
  have SY := hid sy
  clear hb0 c1 c2 c5 hr1 hr2 hr3 hr4 sx sy
  have ltA := XA_0.out.lt
  have cA0 := XA_0.out.cell 0 _ rfl
  have cA1 := XA_0.out.cell 1 _ rfl
  have cA2 := XA_0.out.cell 2 _ rfl
  have ltB := XB_0.out.lt
  have cB0 := XB_0.out.cell 0 _ rfl
  have cB1 := XB_0.out.cell 1 _ rfl
  have cB2 := XB_0.out.cell 2 _ rfl
  go_wp2_with fail
  refine (psum_any (negB x) (!negB y) ao bo co eo n capa m capb p capc q capd x.num.natAbs x.den y.num.natAbs y.den _ R0_0.out R1_0.out R2_0.out R3_0.out (by omega) (by omega) (by omega) (by omega)).mono ?_
  rintro e2 w2 ⟨v2, mz, z, rfl, hz, hzl, ⟨go, gn, gc, ho, hn, hc, rfl, hg2, hh2⟩, hb2⟩
  have XA_3 := hid (XA_0.out.keep hb2)
  have XB_3 := hid (XB_0.out.keep hb2)
  have R0_3 := hid (R0_0.out.below hb2)
  have R1_3 := hid (R1_0.out.below hb2)
  have R2_3 := hid (R2_0.out.below hb2)
  have R3_3 := hid (R3_0.out.below hb2)
  have HB_3 : Hid (Below w.heap.size w w2) := HB_0.out.trans (hb2.mono HB_0.out.size)
  clear ltA cA0 cA1 cA2 ltB cB0 cB1 cB2
  have ltA := XA_3.out.lt
  have cA0 := XA_3.out.cell 0 _ rfl
  have cA1 := XA_3.out.cell 1 _ rfl
  have cA2 := XA_3.out.cell 2 _ rfl
  have ltB := XB_3.out.lt
  have cB0 := XB_3.out.cell 0 _ rfl
  have cB1 := XB_3.out.cell 1 _ rfl
  have cB2 := XB_3.out.cell 2 _ rfl
  have HZ := hid hz
  have lg : gn ≤ 601 := by rw [← hg2.len]; exact sum_small SX.out.1 SX.out.2 SY.out.1 SY.out.2 hzl
  have lh : hn ≤ 600 := by rw [← hh2.len]; exact Nat.le_trans (len_mul _ _) (by have := SX.out.2; have := SY.out.2; omega)
  have leng := hg2.len
  have Rg1_3 := hid hg2
  have Rg2_3 := hid hh2
  clear hb2 hg2 hh2 hz hzl
  clear ltA cA0 cA1 cA2 ltB cB0 cB1 cB2
  have Yg_3 := hid (bx_new w2 #[.bool mz, .slice go gn gc, .slice ho hn hc] 82)
  have Qg1_3 := hid (Rg1_3.out.alloc (.cells #[.bool mz, .slice go gn gc, .slice ho hn hc] 82))
  have Qg2_3 := hid (Rg2_3.out.alloc (.cells #[.bool mz, .slice go gn gc, .slice ho hn hc] 82))
  have HC_3 : Hid (Below w.heap.size w (w2.alloc (.cells #[.bool mz, .slice go gn gc, .slice ho hn hc] 82))) := HB_3.out.alloc HB_3.out.size (.cells #[.bool mz, .slice go gn gc, .slice ho hn hc] 82)
  go_wp2_with fail
  refine (ptext_any mz go ho gn gc hn hc z (x.den * y.den) _ Qg1_3.out Qg2_3.out (by omega) (by omega) (den_ne x y)).mono ?_
  rintro e3 w3 ⟨rfl, hb3⟩
  have Xg_4 := hid (Yg_3.out.keep hb3)
  have Rg1_4 := hid (Qg1_3.out.below hb3)
  have Rg2_4 := hid (Qg2_3.out.below hb3)
  have HB_4 : Hid (Below w.heap.size w w3) := HC_3.out.trans (hb3.mono HC_3.out.size)
  have ltg := Xg_4.out.lt
  have cg0 := Xg_4.out.cell 0 _ rfl
  have cg1 := Xg_4.out.cell 1 _ rfl
  have cg2 := Xg_4.out.cell 2 _ rfl
  clear hb3
  rw [HZ.out, ← sub_sg x y]
  go_wp2
  go_ret2
  exact ⟨rfl, HB_4.out⟩

set_option maxHeartbeats 2000000 in
set_option maxRecDepth 20000 in
theorem porder_any (ao bo co eo : Option Addr) (n capa m capb p capc q capd : Nat) (x y : Rat) (w : World) (hr1 : Row w ao n capa (limbs x.num.natAbs)) (hr2 : Row w bo m capb (limbs x.den)) (hr3 : Row w co p capc (limbs y.num.natAbs)) (hr4 : Row w eo q capd (limbs y.den)) (sx : Sm x 300) (sy : Sm y 300) :
    Calls Tryd.prog 61 #[.agg #[.bool (negB x), .slice ao n capa, .slice bo m capb], .agg #[.bool (negB y), .slice co p capc, .slice eo q capd]] w fun e w' => e = .returned (.int .i64 (cmpQ x y)) ∧ Below w.heap.size w w' := by
  obtain ⟨c1, c2, c5⟩ := boxes2 w #[.bool (negB x), .slice ao n capa, .slice bo m capb] #[.bool (!negB y), .slice co p capc, .slice eo q capd] 82 82
  have b1 : n ≤ 300 := by have := hr1.len; have := sx.1; omega
  have b2 : m ≤ 300 := by have := hr2.len; have := sx.2; omega
  have b3 : p ≤ 300 := by have := hr3.len; have := sy.1; omega
  have b4 : q ≤ 300 := by have := hr4.len; have := sy.2; omega
  have XA_0 := hid c1
  have XB_0 := hid c2
  have R0_0 := hid (hr1.below c5)
  have R1_0 := hid (hr2.below c5)
  have R2_0 := hid (hr3.below c5)
  have R3_0 := hid (hr4.below c5)
  have HB_0 := hid c5
  have SX := hid sx
  have SY := hid sy
  clear c1 c2 c5 hr1 hr2 hr3 hr4 sx sy
  go_enter Tryd.func61, Tryd.ntmps61
  have ltA := XA_0.out.lt
  have cA0 := XA_0.out.cell 0 _ rfl
  have cA1 := XA_0.out.cell 1 _ rfl
  have cA2 := XA_0.out.cell 2 _ rfl
  have ltB := XB_0.out.lt
  have cB0 := XB_0.out.cell 0 _ rfl
  have cB1 := XB_0.out.cell 1 _ rfl
  have cB2 := XB_0.out.cell 2 _ rfl
  go_wp2_with fail
  refine (psum_any (negB x) (!negB y) ao bo co eo n capa m capb p capc q capd x.num.natAbs x.den y.num.natAbs y.den _ R0_0.out R1_0.out R2_0.out R3_0.out (by omega) (by omega) (by omega) (by omega)).mono ?_
  rintro e2 w2 ⟨v2, mz, z, rfl, hz, hzl, ⟨go, gn, gc, ho, hn, hc, rfl, hg2, hh2⟩, hb2⟩
  have XA_3 := hid (XA_0.out.keep hb2)
  have XB_3 := hid (XB_0.out.keep hb2)
  have R0_3 := hid (R0_0.out.below hb2)
  have R1_3 := hid (R1_0.out.below hb2)
  have R2_3 := hid (R2_0.out.below hb2)
  have R3_3 := hid (R3_0.out.below hb2)
  have HB_3 : Hid (Below w.heap.size w w2) := HB_0.out.trans (hb2.mono HB_0.out.size)
  clear ltA cA0 cA1 cA2 ltB cB0 cB1 cB2
  have ltA := XA_3.out.lt
  have cA0 := XA_3.out.cell 0 _ rfl
  have cA1 := XA_3.out.cell 1 _ rfl
  have cA2 := XA_3.out.cell 2 _ rfl
  have ltB := XB_3.out.lt
  have cB0 := XB_3.out.cell 0 _ rfl
  have cB1 := XB_3.out.cell 1 _ rfl
  have cB2 := XB_3.out.cell 2 _ rfl
  have HZ := hid hz
  have lg : gn ≤ 601 := by rw [← hg2.len]; exact sum_small SX.out.1 SX.out.2 SY.out.1 SY.out.2 hzl
  have lh : hn ≤ 600 := by rw [← hh2.len]; exact Nat.le_trans (len_mul _ _) (by have := SX.out.2; have := SY.out.2; omega)
  have leng := hg2.len
  have Rg1_3 := hid hg2
  have Rg2_3 := hid hh2
  clear hb2 hg2 hh2 hz hzl
  clear ltA cA0 cA1 cA2 ltB cB0 cB1 cB2
  have Yg_3 := hid (bx_new w2 #[.bool mz, .slice go gn gc, .slice ho hn hc] 82)
  have Qg1_3 := hid (Rg1_3.out.alloc (.cells #[.bool mz, .slice go gn gc, .slice ho hn hc] 82))
  have Qg2_3 := hid (Rg2_3.out.alloc (.cells #[.bool mz, .slice go gn gc, .slice ho hn hc] 82))
  have HC_3 : Hid (Below w.heap.size w (w2.alloc (.cells #[.bool mz, .slice go gn gc, .slice ho hn hc] 82))) := HB_3.out.alloc HB_3.out.size (.cells #[.bool mz, .slice go gn gc, .slice ho hn hc] 82)
  have HC := hid (ord_cmp HZ.out)
  by_cases hz0 : z = 0
  · have hgn : gn = 0 := by rw [← leng, hz0]; rfl
    subst hgn
    go_wp2
    go_ret
    exact ⟨by rw [HC.out, if_pos hz0]; rfl, HC_3.out⟩
  · have hgn : ((gn : Int) == 0) = false := by
      rw [beq_eq_false_iff_ne]; have h2 := List.length_pos_iff.2 (limbs_ne_nil hz0); omega
    have HZ0 := hid hz0
    clear hz0
    cases mz with
    | true =>
      go_wp2
      go_ret
      exact ⟨by rw [HC.out, if_neg HZ0.out]; rfl, HC_3.out⟩
    | false =>
      go_wp2
      go_ret
      exact ⟨by rw [HC.out, if_neg HZ0.out]; rfl, HC_3.out⟩

set_option maxHeartbeats 2000000 in
set_option maxRecDepth 20000 in
theorem pCompare_yes (a b : ByteArray) (w : World) (x y : Rat) (hx : Hid (readL a.data.toList = some x)) (hy : Hid (readL b.data.toList = some y)) :
    Calls Tryd.prog 19 #[.string a, .string b] w fun e w' => e = .returned (.tuple #[.int .i64 (cmpQ x y), .int .i64 0]) ∧ Below w.heap.size w w' := by
  have sx := readL_small hx.out
  have sy := readL_small hy.out
  go_enter Tryd.func19, Tryd.ntmps19
  go_wp2_with fail
  refine (ptwo_yes a b _ x y hx hy).mono ?_
  rintro e0 w0 ⟨u, v, rfl, ⟨ao, n, capa, bo, m, capb, rfl, hr1, hr2⟩, ⟨co, p, capc, eo, q, capd, rfl, hr3, hr4⟩, hb0⟩
  obtain ⟨c1, c2, c5⟩ := boxes2 w0 #[.bool (negB x), .slice ao n capa, .slice bo m capb] #[.bool (negB y), .slice co p capc, .slice eo q capd] 82 82
  have b1 : n ≤ 300 := by have := hr1.len; have := sx.1; omega
  have b2 : m ≤ 300 := by have := hr2.len; have := sx.2; omega
  have b3 : p ≤ 300 := by have := hr3.len; have := sy.1; omega
  have b4 : q ≤ 300 := by have := hr4.len; have := sy.2; omega
  have XA_0 := hid c1
  have XB_0 := hid c2
  have R0_0 := hid (hr1.below c5)
  have R1_0 := hid (hr2.below c5)
  have R2_0 := hid (hr3.below c5)
  have R3_0 := hid (hr4.below c5)
  have HB_0 : Hid (Below w.heap.size w _) := hb0.trans (c5.mono hb0.size)
  have SX := hid sx
  have SY := hid sy
  clear hb0 c1 c2 c5 hr1 hr2 hr3 hr4 sx sy
  have ltA := XA_0.out.lt
  have cA0 := XA_0.out.cell 0 _ rfl
  have cA1 := XA_0.out.cell 1 _ rfl
  have cA2 := XA_0.out.cell 2 _ rfl
  have ltB := XB_0.out.lt
  have cB0 := XB_0.out.cell 0 _ rfl
  have cB1 := XB_0.out.cell 1 _ rfl
  have cB2 := XB_0.out.cell 2 _ rfl
  go_wp2_with fail
  refine (porder_any ao bo co eo n capa m capb p capc q capd x y _ R0_0.out R1_0.out R2_0.out R3_0.out SX.out SY.out).mono ?_
  rintro e2 w2 ⟨rfl, hb2⟩
  have XA_3 := hid (XA_0.out.keep hb2)
  have XB_3 := hid (XB_0.out.keep hb2)
  have R0_3 := hid (R0_0.out.below hb2)
  have R1_3 := hid (R1_0.out.below hb2)
  have R2_3 := hid (R2_0.out.below hb2)
  have R3_3 := hid (R3_0.out.below hb2)
  have HB_3 : Hid (Below w.heap.size w w2) := HB_0.out.trans (hb2.mono HB_0.out.size)
  clear ltA cA0 cA1 cA2 ltB cB0 cB1 cB2
  have ltA := XA_3.out.lt
  have cA0 := XA_3.out.cell 0 _ rfl
  have cA1 := XA_3.out.cell 1 _ rfl
  have cA2 := XA_3.out.cell 2 _ rfl
  have ltB := XB_3.out.lt
  have cB0 := XB_3.out.cell 0 _ rfl
  have cB1 := XB_3.out.cell 1 _ rfl
  have cB2 := XB_3.out.cell 2 _ rfl
  clear hb2
  go_wp2
  go_ret2
  exact ⟨rfl, HB_3.out⟩

set_option maxHeartbeats 2000000 in
set_option maxRecDepth 20000 in
theorem pAdd_no (a b : ByteArray) (w : World) (hma : a.size ≤ maxLen) (hmb : b.size ≤ maxLen) (hq : ∀ x y, readL a.data.toList = some x → readL b.data.toList = some y → False) :
    Calls Tryd.prog 11 #[.string a, .string b] w fun e w' => e = .returned (.tuple #[.string ⟨#[]⟩, .int .i64 1]) ∧ Below w.heap.size w w' := by
  have HQ := hid hq
  clear hq
  go_enter Tryd.func11, Tryd.ntmps11
  go_wp2_with fail
  refine (ptwo_no a b _ hma hmb HQ.out).mono ?_
  rintro e0 w0 ⟨f0, fa, fb, fc, fd, fe, ff, g0, ga, gb, gc, gd, ge, gf, rfl, hb0⟩
  obtain ⟨c1, c2, c5⟩ := boxes2 w0 #[.bool f0, .slice fa fb fc, .slice fd fe ff] #[.bool g0, .slice ga gb gc, .slice gd ge gf] 82 82
  have HB : Hid (Below w.heap.size w _) := hb0.trans (c5.mono hb0.size)
  clear hb0 c1 c2 c5
  go_wp2
  go_ret2
  exact ⟨rfl, HB.out⟩

set_option maxHeartbeats 2000000 in
set_option maxRecDepth 20000 in
theorem pSubtract_no (a b : ByteArray) (w : World) (hma : a.size ≤ maxLen) (hmb : b.size ≤ maxLen) (hq : ∀ x y, readL a.data.toList = some x → readL b.data.toList = some y → False) :
    Calls Tryd.prog 13 #[.string a, .string b] w fun e w' => e = .returned (.tuple #[.string ⟨#[]⟩, .int .i64 1]) ∧ Below w.heap.size w w' := by
  have HQ := hid hq
  clear hq
  go_enter Tryd.func13, Tryd.ntmps13
  go_wp2_with fail
  refine (ptwo_no a b _ hma hmb HQ.out).mono ?_
  rintro e0 w0 ⟨f0, fa, fb, fc, fd, fe, ff, g0, ga, gb, gc, gd, ge, gf, rfl, hb0⟩
  obtain ⟨c1, c2, c5⟩ := boxes2 w0 #[.bool f0, .slice fa fb fc, .slice fd fe ff] #[.bool g0, .slice ga gb gc, .slice gd ge gf] 82 82
  have HB : Hid (Below w.heap.size w _) := hb0.trans (c5.mono hb0.size)
  clear hb0 c1 c2 c5
  go_wp2
  go_ret2
  exact ⟨rfl, HB.out⟩

set_option maxHeartbeats 2000000 in
set_option maxRecDepth 20000 in
theorem pMultiply_no (a b : ByteArray) (w : World) (hma : a.size ≤ maxLen) (hmb : b.size ≤ maxLen) (hq : ∀ x y, readL a.data.toList = some x → readL b.data.toList = some y → False) :
    Calls Tryd.prog 15 #[.string a, .string b] w fun e w' => e = .returned (.tuple #[.string ⟨#[]⟩, .int .i64 1]) ∧ Below w.heap.size w w' := by
  have HQ := hid hq
  clear hq
  go_enter Tryd.func15, Tryd.ntmps15
  go_wp2_with fail
  refine (ptwo_no a b _ hma hmb HQ.out).mono ?_
  rintro e0 w0 ⟨f0, fa, fb, fc, fd, fe, ff, g0, ga, gb, gc, gd, ge, gf, rfl, hb0⟩
  obtain ⟨c1, c2, c5⟩ := boxes2 w0 #[.bool f0, .slice fa fb fc, .slice fd fe ff] #[.bool g0, .slice ga gb gc, .slice gd ge gf] 82 82
  have HB : Hid (Below w.heap.size w _) := hb0.trans (c5.mono hb0.size)
  clear hb0 c1 c2 c5
  go_wp2
  go_ret2
  exact ⟨rfl, HB.out⟩

set_option maxHeartbeats 2000000 in
set_option maxRecDepth 20000 in
theorem pDivide_no (a b : ByteArray) (w : World) (hma : a.size ≤ maxLen) (hmb : b.size ≤ maxLen) (hq : ∀ x y, readL a.data.toList = some x → readL b.data.toList = some y → False) :
    Calls Tryd.prog 17 #[.string a, .string b] w fun e w' => e = .returned (.tuple #[.string ⟨#[]⟩, .int .i64 1]) ∧ Below w.heap.size w w' := by
  have HQ := hid hq
  clear hq
  go_enter Tryd.func17, Tryd.ntmps17
  go_wp2_with fail
  refine (ptwo_no a b _ hma hmb HQ.out).mono ?_
  rintro e0 w0 ⟨f0, fa, fb, fc, fd, fe, ff, g0, ga, gb, gc, gd, ge, gf, rfl, hb0⟩
  obtain ⟨c1, c2, c5⟩ := boxes2 w0 #[.bool f0, .slice fa fb fc, .slice fd fe ff] #[.bool g0, .slice ga gb gc, .slice gd ge gf] 82 82
  have HB : Hid (Below w.heap.size w _) := hb0.trans (c5.mono hb0.size)
  clear hb0 c1 c2 c5
  go_wp2
  go_ret2
  exact ⟨rfl, HB.out⟩

set_option maxHeartbeats 2000000 in
set_option maxRecDepth 20000 in
theorem pCompare_no (a b : ByteArray) (w : World) (hma : a.size ≤ maxLen) (hmb : b.size ≤ maxLen) (hq : ∀ x y, readL a.data.toList = some x → readL b.data.toList = some y → False) :
    Calls Tryd.prog 19 #[.string a, .string b] w fun e w' => e = .returned (.tuple #[.int .i64 0, .int .i64 1]) ∧ Below w.heap.size w w' := by
  have HQ := hid hq
  clear hq
  go_enter Tryd.func19, Tryd.ntmps19
  go_wp2_with fail
  refine (ptwo_no a b _ hma hmb HQ.out).mono ?_
  rintro e0 w0 ⟨f0, fa, fb, fc, fd, fe, ff, g0, ga, gb, gc, gd, ge, gf, rfl, hb0⟩
  obtain ⟨c1, c2, c5⟩ := boxes2 w0 #[.bool f0, .slice fa fb fc, .slice fd fe ff] #[.bool g0, .slice ga gb gc, .slice gd ge gf] 82 82
  have HB : Hid (Below w.heap.size w _) := hb0.trans (c5.mono hb0.size)
  clear hb0 c1 c2 c5
  go_wp2
  go_ret2
  exact ⟨rfl, HB.out⟩

end Go.Proofs.YtddbflggcblfcaaDoor
