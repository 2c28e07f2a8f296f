/- portionref.Multiply, Divide: of any two texts that are fractions. (Laid by mkrefp.py.) -/
import Derived.Test.YtddbflggcblfcaaDoorRefP
import Derived.Deep.RegionHeld3
namespace Go.Proofs.YtddbflggcblfcaaDoor
set_option linter.unusedSimpArgs false
set_option linter.unusedVariables false
open Go.RowKit Por

set_option maxHeartbeats 2000000 in
set_option maxRecDepth 20000 in
theorem pMultiply_yes (a b : ByteArray) (w : World) (x y : Rat) (hx : Hid (readL a.data.toList = some x)) (hy : Hid (readL b.data.toList = some y)) :
    Calls Tryd.prog 15 #[.string a, .string b] w fun e w' => e = .returned (.tuple #[.string ⟨(txt (x * y)).toArray⟩, .int .i64 0]) ∧ Below w.heap.size w w' := by
  have sx := readL_small hx.out
  have sy := readL_small hy.out
  go_enter Tryd.func15, Tryd.ntmps15
  go_wp2_with fail
  refine (ptwo_yes a b _ x y hx hy).mono ?_
  rintro e0 w0 ⟨u, v, rfl, ⟨ao, n, capa, bo, m, capb, rfl, hr1, hr2⟩, ⟨co, p, capc, eo, q, capd, rfl, hr3, hr4⟩, hb0⟩
  obtain ⟨c1, c2, c5⟩ := boxes2 w0 #[.bool (negB x), .slice ao n capa, .slice bo m capb] #[.bool (negB y), .slice co p capc, .slice eo q capd] 82 82
  have b1 : n ≤ 300 := by have := hr1.len; have := sx.1; omega
  have b2 : m ≤ 300 := by have := hr2.len; have := sx.2; omega
  have b3 : p ≤ 300 := by have := hr3.len; have := sy.1; omega
  have b4 : q ≤ 300 := by have := hr4.len; have := sy.2; omega
  have XA_0 := hid c1
  have XB_0 := hid c2
  have R0_0 := hid (hr1.below c5)
  have R1_0 := hid (hr2.below c5)
  have R2_0 := hid (hr3.below c5)
  have R3_0 := hid (hr4.below c5)
  have HB_0 : Hid (Below w.heap.size w _) := hb0.trans (c5.mono hb0.size)
  have SX := hid sx
  have SY := hid sy
  clear hb0 c1 c2 c5 hr1 hr2 hr3 hr4 sx sy
  go_wp2_with fail
  obtain ⟨V, hV⟩ : ∃ V, V = (w0.alloc (.cells #[.bool (negB x), .slice ao n capa, .slice bo m capb] 82)).alloc (.cells #[.bool (negB y), .slice co p capc, .slice eo q capd] 82) := ⟨_, rfl⟩
  rw [← hV] at XA_0 XB_0 R0_0 R1_0 R2_0 R3_0 HB_0 ⊢
  clear hV
  have a0 := XA_0.out.drew.cell 0 _ rfl
  have d0 := XB_0.out.drew.cell 0 _ rfl
  have a1 := XA_0.out.drew.cell 1 _ rfl
  have d1 := XB_0.out.drew.cell 1 _ rfl
  have a2 := XA_0.out.drew.cell 2 _ rfl
  have d2 := XB_0.out.drew.cell 2 _ rfl
  have LS := hid SX.out
  have LT := hid SY.out
  go_region_held3 (fun w' => w'.cell? ⟨w0.heap.size, 0, none⟩ = some (.bool (negB x)) ∧ w'.cell? ⟨w0.heap.size, 1, none⟩ = some (.slice ao n capa) ∧ w'.cell? ⟨w0.heap.size, 2, none⟩ = some (.slice bo m capb) ∧ w'.cell? ⟨w0.heap.size + 1, 0, none⟩ = some (.bool (negB y)) ∧ w'.cell? ⟨w0.heap.size + 1, 1, none⟩ = some (.slice co p capc) ∧ w'.cell? ⟨w0.heap.size + 1, 2, none⟩ = some (.slice eo q capd)) (first | exact ⟨k60, k61, k62, k63, k64, k65⟩ | exact ⟨k50, k51, k52, k53, k54, k55⟩ | exact ⟨k40, k41, k42, k43, k44, k45⟩ | exact ⟨a0, a1, a2, d0, d1, d2⟩)
    (first | (go_at_call 55; refine (ptext_any (negB x != negB y) go ho gn gc hn hc (x.num.natAbs * y.num.natAbs) (x.den * y.den) w5 (Hg.out.below Hb5.out) Hh.out (by omega) (by omega) (den_ne x y)).mono ?_; rintro e6 w6 ⟨rfl, hb6⟩; have k60 := (XA_5.out.keep hb6).cell 0 _ rfl; have k61 := (XA_5.out.keep hb6).cell 1 _ rfl; have k62 := (XA_5.out.keep hb6).cell 2 _ rfl; have k63 := (XB_5.out.keep hb6).cell 0 _ rfl; have k64 := (XB_5.out.keep hb6).cell 1 _ rfl; have k65 := (XB_5.out.keep hb6).cell 2 _ rfl; have Hb6 := hid hb6; clear hb6) | (go_at_call 58; refine (ptimes_any bo eo m capb q capd x.den y.den w4 (R1_0.out.drew.below Hb4.out) (R3_0.out.drew.below Hb4.out) (by omega) (by omega)).mono ?_; rintro e5 w5 ⟨v5, rfl, ⟨ho, hn, hc, rfl, hr5, _⟩, hb5⟩; have XA_5 := hid (XA_4.out.keep hb5); have XB_5 := hid (XB_4.out.keep hb5); have k50 := XA_5.out.cell 0 _ rfl; have k51 := XA_5.out.cell 1 _ rfl; have k52 := XA_5.out.cell 2 _ rfl; have k53 := XB_5.out.cell 0 _ rfl; have k54 := XB_5.out.cell 1 _ rfl; have k55 := XB_5.out.cell 2 _ rfl; have lenh : hn ≤ 600 := (by rw [← hr5.len]; exact (Nat.le_trans (len_mul _ _) (by have := LS.out.1; have := LS.out.2; have := LT.out.1; have := LT.out.2; omega))); have Hh := hid hr5; have Hb5 := hid hb5; clear hb5 hr5) | (go_at_call 58; refine (ptimes_any ao co n capa p capc x.num.natAbs y.num.natAbs V.drew R0_0.out.drew R2_0.out.drew (by omega) (by omega)).mono ?_; rintro e4 w4 ⟨v4, rfl, ⟨go, gn, gc, rfl, hr4, _⟩, hb4⟩; have XA_4 := hid (XA_0.out.drew.keep hb4); have XB_4 := hid (XB_0.out.drew.keep hb4); have k40 := XA_4.out.cell 0 _ rfl; have k41 := XA_4.out.cell 1 _ rfl; have k42 := XA_4.out.cell 2 _ rfl; have k43 := XB_4.out.cell 0 _ rfl; have k44 := XB_4.out.cell 1 _ rfl; have k45 := XB_4.out.cell 2 _ rfl; have leng : gn ≤ 600 := (by rw [← hr4.len]; exact (Nat.le_trans (len_mul _ _) (by have := LS.out.1; have := LS.out.2; have := LT.out.1; have := LT.out.2; omega))); have Hg := hid hr4; have Hb4 := hid hb4; clear hb4 hr4))
  go_wp2
  go_ret2
  exact ⟨by rw [mul_sg x y]; rfl, ((HB_0.out.drew.trans (Hb4.out.mono HB_0.out.size)).trans (Hb5.out.mono (Nat.le_trans HB_0.out.size Hb4.out.size))).trans (Hb6.out.mono (Nat.le_trans (Nat.le_trans HB_0.out.size Hb4.out.size) Hb5.out.size))⟩

set_option maxHeartbeats 2000000 in
set_option maxRecDepth 20000 in
theorem pDivide_yes (a b : ByteArray) (w : World) (x y : Rat) (hx : Hid (readL a.data.toList = some x)) (hy : Hid (readL b.data.toList = some y)) (hy0 : Hid (y ≠ 0)) :
    Calls Tryd.prog 17 #[.string a, .string b] w fun e w' => e = .returned (.tuple #[.string ⟨(txt (x / y)).toArray⟩, .int .i64 0]) ∧ Below w.heap.size w w' := by
  have sx := readL_small hx.out
  have sy := readL_small hy.out
  go_enter Tryd.func17, Tryd.ntmps17
  go_wp2_with fail
  refine (ptwo_yes a b _ x y hx hy).mono ?_
  rintro e0 w0 ⟨u, v, rfl, ⟨ao, n, capa, bo, m, capb, rfl, hr1, hr2⟩, ⟨co, p, capc, eo, q, capd, rfl, hr3, hr4⟩, hb0⟩
  obtain ⟨c1, c2, c5⟩ := boxes2 w0 #[.bool (negB x), .slice ao n capa, .slice bo m capb] #[.bool (negB y), .slice co p capc, .slice eo q capd] 82 82
  have b1 : n ≤ 300 := by have := hr1.len; have := sx.1; omega
  have b2 : m ≤ 300 := by have := hr2.len; have := sx.2; omega
  have b3 : p ≤ 300 := by have := hr3.len; have := sy.1; omega
  have b4 : q ≤ 300 := by have := hr4.len; have := sy.2; omega
  have XA_0 := hid c1
  have XB_0 := hid c2
  have R0_0 := hid (hr1.below c5)
  have R1_0 := hid (hr2.below c5)
  have R2_0 := hid (hr3.below c5)
  have R3_0 := hid (hr4.below c5)
  have HB_0 : Hid (Below w.heap.size w _) := hb0.trans (c5.mono hb0.size)
  have SX := hid sx
  have SY := hid sy
  clear hb0 c1 c2 c5 hr1 hr2 hr3 hr4 sx sy
  have hpn : ((p : Int) == 0) = false := by
    rw [beq_eq_false_iff_ne]; have h2 := List.length_pos_iff.2 (limbs_ne_nil (fun h => hy0.out ((num_zero y).1 h))); have := R2_0.out.len; omega
  go_wp2_with fail
  obtain ⟨V, hV⟩ : ∃ V, V = (w0.alloc (.cells #[.bool (negB x), .slice ao n capa, .slice bo m capb] 82)).alloc (.cells #[.bool (negB y), .slice co p capc, .slice eo q capd] 82) := ⟨_, rfl⟩
  rw [← hV] at XA_0 XB_0 R0_0 R1_0 R2_0 R3_0 HB_0 ⊢
  clear hV
  have a0 := XA_0.out.drew.cell 0 _ rfl
  have d0 := XB_0.out.drew.cell 0 _ rfl
  have a1 := XA_0.out.drew.cell 1 _ rfl
  have d1 := XB_0.out.drew.cell 1 _ rfl
  have a2 := XA_0.out.drew.cell 2 _ rfl
  have d2 := XB_0.out.drew.cell 2 _ rfl
  have LS := hid SX.out
  have LT := hid SY.out
  go_region_held3 (fun w' => w'.cell? ⟨w0.heap.size, 0, none⟩ = some (.bool (negB x)) ∧ w'.cell? ⟨w0.heap.size, 1, none⟩ = some (.slice ao n capa) ∧ w'.cell? ⟨w0.heap.size, 2, none⟩ = some (.slice bo m capb) ∧ w'.cell? ⟨w0.heap.size + 1, 0, none⟩ = some (.bool (negB y)) ∧ w'.cell? ⟨w0.heap.size + 1, 1, none⟩ = some (.slice co p capc) ∧ w'.cell? ⟨w0.heap.size + 1, 2, none⟩ = some (.slice eo q capd)) (first | exact ⟨k60, k61, k62, k63, k64, k65⟩ | exact ⟨k50, k51, k52, k53, k54, k55⟩ | exact ⟨k40, k41, k42, k43, k44, k45⟩ | exact ⟨a0, a1, a2, d0, d1, d2⟩)
    (first | (go_at_call 55; refine (ptext_any (negB x != negB y) go ho gn gc hn hc (x.num.natAbs * y.den) (x.den * y.num.natAbs) w5 (Hg.out.below Hb5.out) Hh.out (by omega) (by omega) (Nat.mul_ne_zero x.den_nz (fun h => hy0.out ((num_zero y).1 h)))).mono ?_; rintro e6 w6 ⟨rfl, hb6⟩; have k60 := (XA_5.out.keep hb6).cell 0 _ rfl; have k61 := (XA_5.out.keep hb6).cell 1 _ rfl; have k62 := (XA_5.out.keep hb6).cell 2 _ rfl; have k63 := (XB_5.out.keep hb6).cell 0 _ rfl; have k64 := (XB_5.out.keep hb6).cell 1 _ rfl; have k65 := (XB_5.out.keep hb6).cell 2 _ rfl; have Hb6 := hid hb6; clear hb6) | (go_at_call 58; refine (ptimes_any bo co m capb p capc x.den y.num.natAbs w4 (R1_0.out.drew.below Hb4.out) (R2_0.out.drew.below Hb4.out) (by omega) (by omega)).mono ?_; rintro e5 w5 ⟨v5, rfl, ⟨ho, hn, hc, rfl, hr5, _⟩, hb5⟩; have XA_5 := hid (XA_4.out.keep hb5); have XB_5 := hid (XB_4.out.keep hb5); have k50 := XA_5.out.cell 0 _ rfl; have k51 := XA_5.out.cell 1 _ rfl; have k52 := XA_5.out.cell 2 _ rfl; have k53 := XB_5.out.cell 0 _ rfl; have k54 := XB_5.out.cell 1 _ rfl; have k55 := XB_5.out.cell 2 _ rfl; have lenh : hn ≤ 600 := (by rw [← hr5.len]; exact (Nat.le_trans (len_mul _ _) (by have := LS.out.1; have := LS.out.2; have := LT.out.1; have := LT.out.2; omega))); have Hh := hid hr5; have Hb5 := hid hb5; clear hb5 hr5) | (go_at_call 58; refine (ptimes_any ao eo n capa q capd x.num.natAbs y.den V.drew R0_0.out.drew R3_0.out.drew (by omega) (by omega)).mono ?_; rintro e4 w4 ⟨v4, rfl, ⟨go, gn, gc, rfl, hr4, _⟩, hb4⟩; have XA_4 := hid (XA_0.out.drew.keep hb4); have XB_4 := hid (XB_0.out.drew.keep hb4); have k40 := XA_4.out.cell 0 _ rfl; have k41 := XA_4.out.cell 1 _ rfl; have k42 := XA_4.out.cell 2 _ rfl; have k43 := XB_4.out.cell 0 _ rfl; have k44 := XB_4.out.cell 1 _ rfl; have k45 := XB_4.out.cell 2 _ rfl; have leng : gn ≤ 600 := (by rw [← hr4.len]; exact (Nat.le_trans (len_mul _ _) (by have := LS.out.1; have := LS.out.2; have := LT.out.1; have := LT.out.2; omega))); have Hg := hid hr4; have Hb4 := hid hb4; clear hb4 hr4))
  go_wp2
  go_ret2
  exact ⟨by rw [div_sg x y hy0.out]; rfl, ((HB_0.out.drew.trans (Hb4.out.mono HB_0.out.size)).trans (Hb5.out.mono (Nat.le_trans HB_0.out.size Hb4.out.size))).trans (Hb6.out.mono (Nat.le_trans (Nat.le_trans HB_0.out.size Hb4.out.size) Hb5.out.size))⟩

set_option maxHeartbeats 2000000 in
set_option maxRecDepth 20000 in
theorem pDivide_zero (a b : ByteArray) (w : World) (x y : Rat) (hx : Hid (readL a.data.toList = some x)) (hy : Hid (readL b.data.toList = some y)) (hy0 : Hid (y = 0)) :
    Calls Tryd.prog 17 #[.string a, .string b] w fun e w' => e = .returned (.tuple #[.string ⟨#[]⟩, .int .i64 2]) ∧ Below w.heap.size w w' := by
  have sx := readL_small hx.out
  have sy := readL_small hy.out
  go_enter Tryd.func17, Tryd.ntmps17
  go_wp2_with fail
  refine (ptwo_yes a b _ x y hx hy).mono ?_
  rintro e0 w0 ⟨u, v, rfl, ⟨ao, n, capa, bo, m, capb, rfl, hr1, hr2⟩, ⟨co, p, capc, eo, q, capd, rfl, hr3, hr4⟩, hb0⟩
  obtain ⟨c1, c2, c5⟩ := boxes2 w0 #[.bool (negB x), .slice ao n capa, .slice bo m capb] #[.bool (negB y), .slice co p capc, .slice eo q capd] 82 82
  have b1 : n ≤ 300 := by have := hr1.len; have := sx.1; omega
  have b2 : m ≤ 300 := by have := hr2.len; have := sx.2; omega
  have b3 : p ≤ 300 := by have := hr3.len; have := sy.1; omega
  have b4 : q ≤ 300 := by have := hr4.len; have := sy.2; omega
  have XA_0 := hid c1
  have XB_0 := hid c2
  have R0_0 := hid (hr1.below c5)
  have R1_0 := hid (hr2.below c5)
  have R2_0 := hid (hr3.below c5)
  have R3_0 := hid (hr4.below c5)
  have HB_0 : Hid (Below w.heap.size w _) := hb0.trans (c5.mono hb0.size)
  have SX := hid sx
  have SY := hid sy
  clear hb0 c1 c2 c5 hr1 hr2 hr3 hr4 sx sy
  have hpn : p = 0 := by rw [← R2_0.out.len, (num_zero y).2 hy0.out]; rfl
  subst hpn
  go_wp2
  go_ret2
  exact ⟨rfl, HB_0.out⟩

end Go.Proofs.YtddbflggcblfcaaDoor
