/- exact.Add, Subtract, Multiply, Divide, Compare: of any two texts. (Laid by mkex.py.) -/
import Derived.Test.YtddbflggcblfcaaDoorWExB
import Derived.Test.YtddbflggcblfcaaDoorWRatC
import Derived.Test.YtddbflggcblfcaaDoorWRatD
import Derived.Test.YtddbflggcblfcaaDoorWRatE
namespace Go.Proofs.YtddbflggcblfcaaDoor
set_option linter.unusedSimpArgs false
set_option linter.unusedVariables false
open Go.RowKit Por

set_option maxHeartbeats 2000000 in
set_option maxRecDepth 20000 in
theorem xAdd_yes (a b : ByteArray) (w : World) (x y : Rat) (hx : Hid (readL a.data.toList = some x)) (hy : Hid (readL b.data.toList = some y)) (ht : Tab w) :
    Calls Tryd.prog 10 #[.string a, .string b] w fun e w' => e = .returned (.tuple #[.string ⟨(txt (x + y)).toArray⟩, .int .i64 0]) ∧ Below w.heap.size w w' := by
  have sx := readL_small hx.out
  have sy := readL_small hy.out
  have HT_0 := hid ht
  clear ht
  go_enter Tryd.func10, Tryd.ntmps10
  go_wp2_with fail
  refine (both_yes a b _ x y hx hy).mono ?_
  rintro e0 w0 ⟨u, v, rfl, ⟨ao, n, capa, bo, m, capb, rfl, hr1, hr2⟩, ⟨co, p, capc, eo, q, capd, rfl, hr3, hr4⟩, hb0⟩
  obtain ⟨c1, c2, c5⟩ := boxes2 w0 #[.bool (negB x), .slice ao n capa, .slice bo m capb] #[.bool (negB y), .slice co p capc, .slice eo q capd] 76 76
  have b1 : n ≤ 300 := by have := hr1.len; have := sx.1; omega
  have b2 : m ≤ 300 := by have := hr2.len; have := sx.2; omega
  have b3 : p ≤ 300 := by have := hr3.len; have := sy.1; omega
  have b4 : q ≤ 300 := by have := hr4.len; have := sy.2; omega
  have XA_0 := hid c1
  have XB_0 := hid c2
  have R0_0 := hid (hr1.below c5)
  have R1_0 := hid (hr2.below c5)
  have R2_0 := hid (hr3.below c5)
  have R3_0 := hid (hr4.below c5)
  have HB_0 : Hid (Below w.heap.size w _) := hb0.trans (c5.mono hb0.size)
  have HT_1 := hid ((HT_0.out.below hb0).below c5)
  have SX := hid sx
  have SY := hid sy
  clear hb0 c1 c2 c5 hr1 hr2 hr3 hr4 HT_0 sx sy
  have ltA := XA_0.out.lt
  have cA0 := XA_0.out.cell 0 _ rfl
  have cA1 := XA_0.out.cell 1 _ rfl
  have cA2 := XA_0.out.cell 2 _ rfl
  have ltB := XB_0.out.lt
  have cB0 := XB_0.out.cell 0 _ rfl
  have cB1 := XB_0.out.cell 1 _ rfl
  have cB2 := XB_0.out.cell 2 _ rfl
  go_wp2_with fail
  refine (radd_any ao bo co eo n capa m capb p capc q capd x y _ R0_0.out R1_0.out R2_0.out R3_0.out (by omega) (by omega) (by omega) (by omega)).mono ?_
  rintro e2 w2 ⟨v2, rfl, ⟨go, gn, gc, ho, hn, hc, rfl, hg2, hh2⟩, hb2⟩
  have XA_3 := hid (XA_0.out.keep hb2)
  have XB_3 := hid (XB_0.out.keep hb2)
  have R0_3 := hid (R0_0.out.below hb2)
  have R1_3 := hid (R1_0.out.below hb2)
  have R2_3 := hid (R2_0.out.below hb2)
  have R3_3 := hid (R3_0.out.below hb2)
  have HB_3 : Hid (Below w.heap.size w w2) := HB_0.out.trans (hb2.mono HB_0.out.size)
  have HT_3 := hid (HT_1.out.below hb2)
  clear ltA cA0 cA1 cA2 ltB cB0 cB1 cB2
  have ltA := XA_3.out.lt
  have cA0 := XA_3.out.cell 0 _ rfl
  have cA1 := XA_3.out.cell 1 _ rfl
  have cA2 := XA_3.out.cell 2 _ rfl
  have ltB := XB_3.out.lt
  have cB0 := XB_3.out.cell 0 _ rfl
  have cB1 := XB_3.out.cell 1 _ rfl
  have cB2 := XB_3.out.cell 2 _ rfl
  have Rg1_3 := hid hg2
  have Rg2_3 := hid hh2
  clear hb2 hg2 hh2
  clear ltA cA0 cA1 cA2 ltB cB0 cB1 cB2
  have Yg_3 := hid (bx_new w2 #[.bool (negB (x + y)), .slice go gn gc, .slice ho hn hc] 76)
  have Qg1_3 := hid (Rg1_3.out.alloc (.cells #[.bool (negB (x + y)), .slice go gn gc, .slice ho hn hc] 76))
  have Qg2_3 := hid (Rg2_3.out.alloc (.cells #[.bool (negB (x + y)), .slice go gn gc, .slice ho hn hc] 76))
  have HC_3 : Hid (Below w.heap.size w (w2.alloc (.cells #[.bool (negB (x + y)), .slice go gn gc, .slice ho hn hc] 76))) := HB_3.out.alloc HB_3.out.size (.cells #[.bool (negB (x + y)), .slice go gn gc, .slice ho hn hc] 76)
  have HU_3 := hid (HT_3.out.below ((Below.refl _ _).alloc (Nat.le_refl _) (.cells #[.bool (negB (x + y)), .slice go gn gc, .slice ho hn hc] 76)))
  have SQ := hid (SX.out.add SY.out)
  have bg : gn ≤ 30000 := by have h5 := Qg1_3.out.len; have := SQ.out.1; omega
  have bh : hn ≤ 30000 := by have h5 := Qg2_3.out.len; have := SQ.out.2; omega
  go_wp2_with fail
  refine (rtext_any go ho gn gc hn hc (x + y) _ Qg1_3.out Qg2_3.out bg bh HU_3.out).mono ?_
  rintro e3 w3 ⟨rfl, hb3⟩
  have Xg_4 := hid (Yg_3.out.keep hb3)
  have Rg1_4 := hid (Qg1_3.out.below hb3)
  have Rg2_4 := hid (Qg2_3.out.below hb3)
  have HB_4 : Hid (Below w.heap.size w w3) := HC_3.out.trans (hb3.mono HC_3.out.size)
  have HT_4 := hid (HU_3.out.below hb3)
  have ltg := Xg_4.out.lt
  have cg0 := Xg_4.out.cell 0 _ rfl
  have cg1 := Xg_4.out.cell 1 _ rfl
  have cg2 := Xg_4.out.cell 2 _ rfl
  clear hb3
  go_wp2
  go_ret2
  exact ⟨rfl, HB_4.out⟩

set_option maxHeartbeats 2000000 in
set_option maxRecDepth 20000 in
theorem xSubtract_yes (a b : ByteArray) (w : World) (x y : Rat) (hx : Hid (readL a.data.toList = some x)) (hy : Hid (readL b.data.toList = some y)) (ht : Tab w) :
    Calls Tryd.prog 12 #[.string a, .string b] w fun e w' => e = .returned (.tuple #[.string ⟨(txt (x - y)).toArray⟩, .int .i64 0]) ∧ Below w.heap.size w w' := by
  have sx := readL_small hx.out
  have sy := readL_small hy.out
  have HT_0 := hid ht
  clear ht
  go_enter Tryd.func12, Tryd.ntmps12
  go_wp2_with fail
  refine (both_yes a b _ x y hx hy).mono ?_
  rintro e0 w0 ⟨u, v, rfl, ⟨ao, n, capa, bo, m, capb, rfl, hr1, hr2⟩, ⟨co, p, capc, eo, q, capd, rfl, hr3, hr4⟩, hb0⟩
  obtain ⟨c1, c2, c5⟩ := boxes2 w0 #[.bool (negB x), .slice ao n capa, .slice bo m capb] #[.bool (negB y), .slice co p capc, .slice eo q capd] 76 76
  have b1 : n ≤ 300 := by have := hr1.len; have := sx.1; omega
  have b2 : m ≤ 300 := by have := hr2.len; have := sx.2; omega
  have b3 : p ≤ 300 := by have := hr3.len; have := sy.1; omega
  have b4 : q ≤ 300 := by have := hr4.len; have := sy.2; omega
  have XA_0 := hid c1
  have XB_0 := hid c2
  have R0_0 := hid (hr1.below c5)
  have R1_0 := hid (hr2.below c5)
  have R2_0 := hid (hr3.below c5)
  have R3_0 := hid (hr4.below c5)
  have HB_0 : Hid (Below w.heap.size w _) := hb0.trans (c5.mono hb0.size)
  have HT_1 := hid ((HT_0.out.below hb0).below c5)
  have SX := hid sx
  have SY := hid sy
  clear hb0 c1 c2 c5 hr1 hr2 hr3 hr4 HT_0 sx sy
  have ltA := XA_0.out.lt
  have cA0 := XA_0.out.cell 0 _ rfl
  have cA1 := XA_0.out.cell 1 _ rfl
  have cA2 := XA_0.out.cell 2 _ rfl
  have ltB := XB_0.out.lt
  have cB0 := XB_0.out.cell 0 _ rfl
  have cB1 := XB_0.out.cell 1 _ rfl
  have cB2 := XB_0.out.cell 2 _ rfl
  go_wp2_with fail
  refine (rsub_any ao bo co eo n capa m capb p capc q capd x y _ R0_0.out R1_0.out R2_0.out R3_0.out (by omega) (by omega) (by omega) (by omega)).mono ?_
  rintro e2 w2 ⟨v2, rfl, ⟨go, gn, gc, ho, hn, hc, rfl, hg2, hh2⟩, hb2⟩
  have XA_3 := hid (XA_0.out.keep hb2)
  have XB_3 := hid (XB_0.out.keep hb2)
  have R0_3 := hid (R0_0.out.below hb2)
  have R1_3 := hid (R1_0.out.below hb2)
  have R2_3 := hid (R2_0.out.below hb2)
  have R3_3 := hid (R3_0.out.below hb2)
  have HB_3 : Hid (Below w.heap.size w w2) := HB_0.out.trans (hb2.mono HB_0.out.size)
  have HT_3 := hid (HT_1.out.below hb2)
  clear ltA cA0 cA1 cA2 ltB cB0 cB1 cB2
  have ltA := XA_3.out.lt
  have cA0 := XA_3.out.cell 0 _ rfl
  have cA1 := XA_3.out.cell 1 _ rfl
  have cA2 := XA_3.out.cell 2 _ rfl
  have ltB := XB_3.out.lt
  have cB0 := XB_3.out.cell 0 _ rfl
  have cB1 := XB_3.out.cell 1 _ rfl
  have cB2 := XB_3.out.cell 2 _ rfl
  have Rg1_3 := hid hg2
  have Rg2_3 := hid hh2
  clear hb2 hg2 hh2
  clear ltA cA0 cA1 cA2 ltB cB0 cB1 cB2
  have Yg_3 := hid (bx_new w2 #[.bool (negB (x - y)), .slice go gn gc, .slice ho hn hc] 76)
  have Qg1_3 := hid (Rg1_3.out.alloc (.cells #[.bool (negB (x - y)), .slice go gn gc, .slice ho hn hc] 76))
  have Qg2_3 := hid (Rg2_3.out.alloc (.cells #[.bool (negB (x - y)), .slice go gn gc, .slice ho hn hc] 76))
  have HC_3 : Hid (Below w.heap.size w (w2.alloc (.cells #[.bool (negB (x - y)), .slice go gn gc, .slice ho hn hc] 76))) := HB_3.out.alloc HB_3.out.size (.cells #[.bool (negB (x - y)), .slice go gn gc, .slice ho hn hc] 76)
  have HU_3 := hid (HT_3.out.below ((Below.refl _ _).alloc (Nat.le_refl _) (.cells #[.bool (negB (x - y)), .slice go gn gc, .slice ho hn hc] 76)))
  have SQ := hid (SX.out.sub SY.out)
  have bg : gn ≤ 30000 := by have h5 := Qg1_3.out.len; have := SQ.out.1; omega
  have bh : hn ≤ 30000 := by have h5 := Qg2_3.out.len; have := SQ.out.2; omega
  go_wp2_with fail
  refine (rtext_any go ho gn gc hn hc (x - y) _ Qg1_3.out Qg2_3.out bg bh HU_3.out).mono ?_
  rintro e3 w3 ⟨rfl, hb3⟩
  have Xg_4 := hid (Yg_3.out.keep hb3)
  have Rg1_4 := hid (Qg1_3.out.below hb3)
  have Rg2_4 := hid (Qg2_3.out.below hb3)
  have HB_4 : Hid (Below w.heap.size w w3) := HC_3.out.trans (hb3.mono HC_3.out.size)
  have HT_4 := hid (HU_3.out.below hb3)
  have ltg := Xg_4.out.lt
  have cg0 := Xg_4.out.cell 0 _ rfl
  have cg1 := Xg_4.out.cell 1 _ rfl
  have cg2 := Xg_4.out.cell 2 _ rfl
  clear hb3
  go_wp2
  go_ret2
  exact ⟨rfl, HB_4.out⟩

set_option maxHeartbeats 2000000 in
set_option maxRecDepth 20000 in
theorem xMultiply_yes (a b : ByteArray) (w : World) (x y : Rat) (hx : Hid (readL a.data.toList = some x)) (hy : Hid (readL b.data.toList = some y)) (ht : Tab w) :
    Calls Tryd.prog 14 #[.string a, .string b] w fun e w' => e = .returned (.tuple #[.string ⟨(txt (x * y)).toArray⟩, .int .i64 0]) ∧ Below w.heap.size w w' := by
  have sx := readL_small hx.out
  have sy := readL_small hy.out
  have HT_0 := hid ht
  clear ht
  go_enter Tryd.func14, Tryd.ntmps14
  go_wp2_with fail
  refine (both_yes a b _ x y hx hy).mono ?_
  rintro e0 w0 ⟨u, v, rfl, ⟨ao, n, capa, bo, m, capb, rfl, hr1, hr2⟩, ⟨co, p, capc, eo, q, capd, rfl, hr3, hr4⟩, hb0⟩
  obtain ⟨c1, c2, c5⟩ := boxes2 w0 #[.bool (negB x), .slice ao n capa, .slice bo m capb] #[.bool (negB y), .slice co p capc, .slice eo q capd] 76 76
  have b1 : n ≤ 300 := by have := hr1.len; have := sx.1; omega
  have b2 : m ≤ 300 := by have := hr2.len; have := sx.2; omega
  have b3 : p ≤ 300 := by have := hr3.len; have := sy.1; omega
  have b4 : q ≤ 300 := by have := hr4.len; have := sy.2; omega
  have XA_0 := hid c1
  have XB_0 := hid c2
  have R0_0 := hid (hr1.below c5)
  have R1_0 := hid (hr2.below c5)
  have R2_0 := hid (hr3.below c5)
  have R3_0 := hid (hr4.below c5)
  have HB_0 : Hid (Below w.heap.size w _) := hb0.trans (c5.mono hb0.size)
  have HT_1 := hid ((HT_0.out.below hb0).below c5)
  have SX := hid sx
  have SY := hid sy
  clear hb0 c1 c2 c5 hr1 hr2 hr3 hr4 HT_0 sx sy
  have ltA := XA_0.out.lt
  have cA0 := XA_0.out.cell 0 _ rfl
  have cA1 := XA_0.out.cell 1 _ rfl
  have cA2 := XA_0.out.cell 2 _ rfl
  have ltB := XB_0.out.lt
  have cB0 := XB_0.out.cell 0 _ rfl
  have cB1 := XB_0.out.cell 1 _ rfl
  have cB2 := XB_0.out.cell 2 _ rfl
  go_wp2_with fail
  refine (rmul_any ao bo co eo n capa m capb p capc q capd x y _ R0_0.out R1_0.out R2_0.out R3_0.out (by omega) (by omega) (by omega) (by omega)).mono ?_
  rintro e2 w2 ⟨v2, rfl, ⟨go, gn, gc, ho, hn, hc, rfl, hg2, hh2⟩, hb2⟩
  have XA_3 := hid (XA_0.out.keep hb2)
  have XB_3 := hid (XB_0.out.keep hb2)
  have R0_3 := hid (R0_0.out.below hb2)
  have R1_3 := hid (R1_0.out.below hb2)
  have R2_3 := hid (R2_0.out.below hb2)
  have R3_3 := hid (R3_0.out.below hb2)
  have HB_3 : Hid (Below w.heap.size w w2) := HB_0.out.trans (hb2.mono HB_0.out.size)
  have HT_3 := hid (HT_1.out.below hb2)
  clear ltA cA0 cA1 cA2 ltB cB0 cB1 cB2
  have ltA := XA_3.out.lt
  have cA0 := XA_3.out.cell 0 _ rfl
  have cA1 := XA_3.out.cell 1 _ rfl
  have cA2 := XA_3.out.cell 2 _ rfl
  have ltB := XB_3.out.lt
  have cB0 := XB_3.out.cell 0 _ rfl
  have cB1 := XB_3.out.cell 1 _ rfl
  have cB2 := XB_3.out.cell 2 _ rfl
  have Rg1_3 := hid hg2
  have Rg2_3 := hid hh2
  clear hb2 hg2 hh2
  clear ltA cA0 cA1 cA2 ltB cB0 cB1 cB2
  have Yg_3 := hid (bx_new w2 #[.bool (negB (x * y)), .slice go gn gc, .slice ho hn hc] 76)
  have Qg1_3 := hid (Rg1_3.out.alloc (.cells #[.bool (negB (x * y)), .slice go gn gc, .slice ho hn hc] 76))
  have Qg2_3 := hid (Rg2_3.out.alloc (.cells #[.bool (negB (x * y)), .slice go gn gc, .slice ho hn hc] 76))
  have HC_3 : Hid (Below w.heap.size w (w2.alloc (.cells #[.bool (negB (x * y)), .slice go gn gc, .slice ho hn hc] 76))) := HB_3.out.alloc HB_3.out.size (.cells #[.bool (negB (x * y)), .slice go gn gc, .slice ho hn hc] 76)
  have HU_3 := hid (HT_3.out.below ((Below.refl _ _).alloc (Nat.le_refl _) (.cells #[.bool (negB (x * y)), .slice go gn gc, .slice ho hn hc] 76)))
  have SQ := hid (SX.out.mul SY.out)
  have bg : gn ≤ 30000 := by have h5 := Qg1_3.out.len; have := SQ.out.1; omega
  have bh : hn ≤ 30000 := by have h5 := Qg2_3.out.len; have := SQ.out.2; omega
  go_wp2_with fail
  refine (rtext_any go ho gn gc hn hc (x * y) _ Qg1_3.out Qg2_3.out bg bh HU_3.out).mono ?_
  rintro e3 w3 ⟨rfl, hb3⟩
  have Xg_4 := hid (Yg_3.out.keep hb3)
  have Rg1_4 := hid (Qg1_3.out.below hb3)
  have Rg2_4 := hid (Qg2_3.out.below hb3)
  have HB_4 : Hid (Below w.heap.size w w3) := HC_3.out.trans (hb3.mono HC_3.out.size)
  have HT_4 := hid (HU_3.out.below hb3)
  have ltg := Xg_4.out.lt
  have cg0 := Xg_4.out.cell 0 _ rfl
  have cg1 := Xg_4.out.cell 1 _ rfl
  have cg2 := Xg_4.out.cell 2 _ rfl
  clear hb3
  go_wp2
  go_ret2
  exact ⟨rfl, HB_4.out⟩

set_option maxHeartbeats 2000000 in
set_option maxRecDepth 20000 in
theorem xDivide_yes (a b : ByteArray) (w : World) (x y : Rat) (hx : Hid (readL a.data.toList = some x)) (hy : Hid (readL b.data.toList = some y)) (ht : Tab w) (hy0 : Hid (y ≠ 0)) :
    Calls Tryd.prog 16 #[.string a, .string b] w fun e w' => e = .returned (.tuple #[.string ⟨(txt (x / y)).toArray⟩, .int .i64 0]) ∧ Below w.heap.size w w' := by
  have sx := readL_small hx.out
  have sy := readL_small hy.out
  have HT_0 := hid ht
  clear ht
  go_enter Tryd.func16, Tryd.ntmps16
  go_wp2_with fail
  refine (both_yes a b _ x y hx hy).mono ?_
  rintro e0 w0 ⟨u, v, rfl, ⟨ao, n, capa, bo, m, capb, rfl, hr1, hr2⟩, ⟨co, p, capc, eo, q, capd, rfl, hr3, hr4⟩, hb0⟩
  obtain ⟨c1, c2, c5⟩ := boxes2 w0 #[.bool (negB x), .slice ao n capa, .slice bo m capb] #[.bool (negB y), .slice co p capc, .slice eo q capd] 76 76
  have b1 : n ≤ 300 := by have := hr1.len; have := sx.1; omega
  have b2 : m ≤ 300 := by have := hr2.len; have := sx.2; omega
  have b3 : p ≤ 300 := by have := hr3.len; have := sy.1; omega
  have b4 : q ≤ 300 := by have := hr4.len; have := sy.2; omega
  have XA_0 := hid c1
  have XB_0 := hid c2
  have R0_0 := hid (hr1.below c5)
  have R1_0 := hid (hr2.below c5)
  have R2_0 := hid (hr3.below c5)
  have R3_0 := hid (hr4.below c5)
  have HB_0 : Hid (Below w.heap.size w _) := hb0.trans (c5.mono hb0.size)
  have HT_1 := hid ((HT_0.out.below hb0).below c5)
  have SX := hid sx
  have SY := hid sy
  clear hb0 c1 c2 c5 hr1 hr2 hr3 hr4 HT_0 sx sy
  have ltA := XA_0.out.lt
  have cA0 := XA_0.out.cell 0 _ rfl
  have cA1 := XA_0.out.cell 1 _ rfl
  have cA2 := XA_0.out.cell 2 _ rfl
  have ltB := XB_0.out.lt
  have cB0 := XB_0.out.cell 0 _ rfl
  have cB1 := XB_0.out.cell 1 _ rfl
  have cB2 := XB_0.out.cell 2 _ rfl
  go_wp2_with fail
  refine (rdiv_yes ao bo co eo n capa m capb p capc q capd x y _ R0_0.out R1_0.out R2_0.out R3_0.out (by omega) (by omega) (by omega) (by omega) hy0.out).mono ?_
  rintro e2 w2 ⟨v2, rfl, ⟨go, gn, gc, ho, hn, hc, rfl, hg2, hh2⟩, hb2⟩
  have XA_3 := hid (XA_0.out.keep hb2)
  have XB_3 := hid (XB_0.out.keep hb2)
  have R0_3 := hid (R0_0.out.below hb2)
  have R1_3 := hid (R1_0.out.below hb2)
  have R2_3 := hid (R2_0.out.below hb2)
  have R3_3 := hid (R3_0.out.below hb2)
  have HB_3 : Hid (Below w.heap.size w w2) := HB_0.out.trans (hb2.mono HB_0.out.size)
  have HT_3 := hid (HT_1.out.below hb2)
  clear ltA cA0 cA1 cA2 ltB cB0 cB1 cB2
  have ltA := XA_3.out.lt
  have cA0 := XA_3.out.cell 0 _ rfl
  have cA1 := XA_3.out.cell 1 _ rfl
  have cA2 := XA_3.out.cell 2 _ rfl
  have ltB := XB_3.out.lt
  have cB0 := XB_3.out.cell 0 _ rfl
  have cB1 := XB_3.out.cell 1 _ rfl
  have cB2 := XB_3.out.cell 2 _ rfl
  have Rg1_3 := hid hg2
  have Rg2_3 := hid hh2
  clear hb2 hg2 hh2
  clear ltA cA0 cA1 cA2 ltB cB0 cB1 cB2
  have Yg_3 := hid (bx_new w2 #[.bool (negB (x / y)), .slice go gn gc, .slice ho hn hc] 76)
  have Qg1_3 := hid (Rg1_3.out.alloc (.cells #[.bool (negB (x / y)), .slice go gn gc, .slice ho hn hc] 76))
  have Qg2_3 := hid (Rg2_3.out.alloc (.cells #[.bool (negB (x / y)), .slice go gn gc, .slice ho hn hc] 76))
  have HC_3 : Hid (Below w.heap.size w (w2.alloc (.cells #[.bool (negB (x / y)), .slice go gn gc, .slice ho hn hc] 76))) := HB_3.out.alloc HB_3.out.size (.cells #[.bool (negB (x / y)), .slice go gn gc, .slice ho hn hc] 76)
  have HU_3 := hid (HT_3.out.below ((Below.refl _ _).alloc (Nat.le_refl _) (.cells #[.bool (negB (x / y)), .slice go gn gc, .slice ho hn hc] 76)))
  have SQ := hid (SX.out.div SY.out hy0.out)
  have bg : gn ≤ 30000 := by have h5 := Qg1_3.out.len; have := SQ.out.1; omega
  have bh : hn ≤ 30000 := by have h5 := Qg2_3.out.len; have := SQ.out.2; omega
  go_wp2_with fail
  refine (rtext_any go ho gn gc hn hc (x / y) _ Qg1_3.out Qg2_3.out bg bh HU_3.out).mono ?_
  rintro e3 w3 ⟨rfl, hb3⟩
  have Xg_4 := hid (Yg_3.out.keep hb3)
  have Rg1_4 := hid (Qg1_3.out.below hb3)
  have Rg2_4 := hid (Qg2_3.out.below hb3)
  have HB_4 : Hid (Below w.heap.size w w3) := HC_3.out.trans (hb3.mono HC_3.out.size)
  have HT_4 := hid (HU_3.out.below hb3)
  have ltg := Xg_4.out.lt
  have cg0 := Xg_4.out.cell 0 _ rfl
  have cg1 := Xg_4.out.cell 1 _ rfl
  have cg2 := Xg_4.out.cell 2 _ rfl
  clear hb3
  go_wp2
  go_ret2
  exact ⟨rfl, HB_4.out⟩

set_option maxHeartbeats 2000000 in
set_option maxRecDepth 20000 in
theorem xDivide_zero (a b : ByteArray) (w : World) (x y : Rat) (hx : Hid (readL a.data.toList = some x)) (hy : Hid (readL b.data.toList = some y)) (ht : Tab w) (hz : Hid (isZ y.num.natAbs = true)) :
    Calls Tryd.prog 16 #[.string a, .string b] w fun e w' => e = .returned (.tuple #[.string ⟨#[]⟩, .int .i64 2]) ∧ Below w.heap.size w w' := by
  have sx := readL_small hx.out
  have sy := readL_small hy.out
  have HT_0 := hid ht
  clear ht
  go_enter Tryd.func16, Tryd.ntmps16
  go_wp2_with fail
  refine (both_yes a b _ x y hx hy).mono ?_
  rintro e0 w0 ⟨u, v, rfl, ⟨ao, n, capa, bo, m, capb, rfl, hr1, hr2⟩, ⟨co, p, capc, eo, q, capd, rfl, hr3, hr4⟩, hb0⟩
  obtain ⟨c1, c2, c5⟩ := boxes2 w0 #[.bool (negB x), .slice ao n capa, .slice bo m capb] #[.bool (negB y), .slice co p capc, .slice eo q capd] 76 76
  have b1 : n ≤ 300 := by have := hr1.len; have := sx.1; omega
  have b2 : m ≤ 300 := by have := hr2.len; have := sx.2; omega
  have b3 : p ≤ 300 := by have := hr3.len; have := sy.1; omega
  have b4 : q ≤ 300 := by have := hr4.len; have := sy.2; omega
  have XA_0 := hid c1
  have XB_0 := hid c2
  have R0_0 := hid (hr1.below c5)
  have R1_0 := hid (hr2.below c5)
  have R2_0 := hid (hr3.below c5)
  have R3_0 := hid (hr4.below c5)
  have HB_0 : Hid (Below w.heap.size w _) := hb0.trans (c5.mono hb0.size)
  have HT_1 := hid ((HT_0.out.below hb0).below c5)
  have SX := hid sx
  have SY := hid sy
  clear hb0 c1 c2 c5 hr1 hr2 hr3 hr4 HT_0 sx sy
  have ltA := XA_0.out.lt
  have cA0 := XA_0.out.cell 0 _ rfl
  have cA1 := XA_0.out.cell 1 _ rfl
  have cA2 := XA_0.out.cell 2 _ rfl
  have ltB := XB_0.out.lt
  have cB0 := XB_0.out.cell 0 _ rfl
  have cB1 := XB_0.out.cell 1 _ rfl
  have cB2 := XB_0.out.cell 2 _ rfl
  go_wp2_with fail
  refine (rdiv_no ao bo co eo n capa m capb p capc q capd x y _ R0_0.out R1_0.out R2_0.out R3_0.out (by omega) (by omega) (by omega) (by omega) hz.out).mono ?_
  rintro e2 w2 ⟨rfl, hb2⟩
  have XA_3 := hid (XA_0.out.keep hb2)
  have XB_3 := hid (XB_0.out.keep hb2)
  have R0_3 := hid (R0_0.out.below hb2)
  have R1_3 := hid (R1_0.out.below hb2)
  have R2_3 := hid (R2_0.out.below hb2)
  have R3_3 := hid (R3_0.out.below hb2)
  have HB_3 : Hid (Below w.heap.size w w2) := HB_0.out.trans (hb2.mono HB_0.out.size)
  have HT_3 := hid (HT_1.out.below hb2)
  clear ltA cA0 cA1 cA2 ltB cB0 cB1 cB2
  have ltA := XA_3.out.lt
  have cA0 := XA_3.out.cell 0 _ rfl
  have cA1 := XA_3.out.cell 1 _ rfl
  have cA2 := XA_3.out.cell 2 _ rfl
  have ltB := XB_3.out.lt
  have cB0 := XB_3.out.cell 0 _ rfl
  have cB1 := XB_3.out.cell 1 _ rfl
  have cB2 := XB_3.out.cell 2 _ rfl
  clear hb2
  clear ltA cA0 cA1 cA2 ltB cB0 cB1 cB2
  have Yg_3 := hid (bx_new w2 #[.bool false, .slice none 0 0, .slice none 0 0] 76)
  have HC_3 : Hid (Below w.heap.size w (w2.alloc (.cells #[.bool false, .slice none 0 0, .slice none 0 0] 76))) := HB_3.out.alloc HB_3.out.size (.cells #[.bool false, .slice none 0 0, .slice none 0 0] 76)
  have HU_3 := hid (HT_3.out.below ((Below.refl _ _).alloc (Nat.le_refl _) (.cells #[.bool false, .slice none 0 0, .slice none 0 0] 76)))
  go_wp2
  go_ret2
  exact ⟨rfl, HC_3.out⟩

set_option maxHeartbeats 2000000 in
set_option maxRecDepth 20000 in
theorem xCompare_yes (a b : ByteArray) (w : World) (x y : Rat) (hx : Hid (readL a.data.toList = some x)) (hy : Hid (readL b.data.toList = some y)) (ht : Tab w) :
    Calls Tryd.prog 18 #[.string a, .string b] w fun e w' => e = .returned (.tuple #[.int .i64 (cmpQ x y), .int .i64 0]) ∧ Below w.heap.size w w' := by
  have sx := readL_small hx.out
  have sy := readL_small hy.out
  have HT_0 := hid ht
  clear ht
  go_enter Tryd.func18, Tryd.ntmps18
  go_wp2_with fail
  refine (both_yes a b _ x y hx hy).mono ?_
  rintro e0 w0 ⟨u, v, rfl, ⟨ao, n, capa, bo, m, capb, rfl, hr1, hr2⟩, ⟨co, p, capc, eo, q, capd, rfl, hr3, hr4⟩, hb0⟩
  obtain ⟨c1, c2, c5⟩ := boxes2 w0 #[.bool (negB x), .slice ao n capa, .slice bo m capb] #[.bool (negB y), .slice co p capc, .slice eo q capd] 76 76
  have b1 : n ≤ 300 := by have := hr1.len; have := sx.1; omega
  have b2 : m ≤ 300 := by have := hr2.len; have := sx.2; omega
  have b3 : p ≤ 300 := by have := hr3.len; have := sy.1; omega
  have b4 : q ≤ 300 := by have := hr4.len; have := sy.2; omega
  have XA_0 := hid c1
  have XB_0 := hid c2
  have R0_0 := hid (hr1.below c5)
  have R1_0 := hid (hr2.below c5)
  have R2_0 := hid (hr3.below c5)
  have R3_0 := hid (hr4.below c5)
  have HB_0 : Hid (Below w.heap.size w _) := hb0.trans (c5.mono hb0.size)
  have HT_1 := hid ((HT_0.out.below hb0).below c5)
  have SX := hid sx
  have SY := hid sy
  clear hb0 c1 c2 c5 hr1 hr2 hr3 hr4 HT_0 sx sy
  have ltA := XA_0.out.lt
  have cA0 := XA_0.out.cell 0 _ rfl
  have cA1 := XA_0.out.cell 1 _ rfl
  have cA2 := XA_0.out.cell 2 _ rfl
  have ltB := XB_0.out.lt
  have cB0 := XB_0.out.cell 0 _ rfl
  have cB1 := XB_0.out.cell 1 _ rfl
  have cB2 := XB_0.out.cell 2 _ rfl
  go_wp2_with fail
  refine (rcmp_any ao bo co eo n capa m capb p capc q capd x y _ R0_0.out R1_0.out R2_0.out R3_0.out (by omega) (by omega) (by omega) (by omega)).mono ?_
  rintro e2 w2 ⟨rfl, hb2⟩
  have XA_3 := hid (XA_0.out.keep hb2)
  have XB_3 := hid (XB_0.out.keep hb2)
  have R0_3 := hid (R0_0.out.below hb2)
  have R1_3 := hid (R1_0.out.below hb2)
  have R2_3 := hid (R2_0.out.below hb2)
  have R3_3 := hid (R3_0.out.below hb2)
  have HB_3 : Hid (Below w.heap.size w w2) := HB_0.out.trans (hb2.mono HB_0.out.size)
  have HT_3 := hid (HT_1.out.below hb2)
  clear ltA cA0 cA1 cA2 ltB cB0 cB1 cB2
  have ltA := XA_3.out.lt
  have cA0 := XA_3.out.cell 0 _ rfl
  have cA1 := XA_3.out.cell 1 _ rfl
  have cA2 := XA_3.out.cell 2 _ rfl
  have ltB := XB_3.out.lt
  have cB0 := XB_3.out.cell 0 _ rfl
  have cB1 := XB_3.out.cell 1 _ rfl
  have cB2 := XB_3.out.cell 2 _ rfl
  clear hb2
  go_wp2
  go_ret2
  exact ⟨rfl, HB_3.out⟩

set_option maxHeartbeats 2000000 in
set_option maxRecDepth 20000 in
theorem xCheck_yes (a : ByteArray) (w : World) (x : Rat) (hx : Hid (readL a.data.toList = some x)) :
    Calls Tryd.prog 34 #[.string a] w fun e w' => e = .returned (.int .i64 0) ∧ Below w.heap.size w w' := by
  go_enter Tryd.func34, Tryd.ntmps34
  go_wp2_with fail
  refine (read_yes a _ x hx.out).mono ?_
  rintro e0 w0 ⟨v, rfl, ⟨ao, n, capa, bo, m, capb, rfl, hr1, hr2⟩, hb0⟩
  have HB := hid hb0
  clear hb0 hr1 hr2
  go_wp2
  go_ret
  exact ⟨rfl, HB.out.alloc HB.out.size _⟩

end Go.Proofs.YtddbflggcblfcaaDoor
