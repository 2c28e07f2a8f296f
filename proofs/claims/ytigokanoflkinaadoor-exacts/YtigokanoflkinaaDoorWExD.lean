/- exact.Floor of any text; exact's calls of texts that are no fractions. (Laid by mkord.py.) -/
import Derived.Test.YtigokanoflkinaaDoorWFloor
namespace Go.Proofs.YtigokanoflkinaaDoor
set_option linter.unusedSimpArgs false
set_option linter.unusedVariables false
open Go.RowKit Por

theorem fl_le (q : Rat) : (flQ q).num.natAbs ≤ q.num.natAbs ∧ (flQ q).den ≤ q.den := by
  refine ⟨?_, by rw [fl_den]; exact den_pos q⟩
  cases hn : negB q
  · rw [(fl_pos q hn).2]; exact Nat.div_le_self _ _
  · by_cases hm : q.num.natAbs % q.den = 0
    · rw [(fl_zero q hn hm).2]; exact Nat.div_le_self _ _
    · rw [(fl_more q hn hm).2]
      have h1 := Nat.div_add_mod q.num.natAbs q.den
      have h2 : q.num.natAbs / q.den ≤ q.den * (q.num.natAbs / q.den) := Nat.le_mul_of_pos_left _ (den_pos q)
      omega
theorem Sm.floor {x : Rat} {a : Nat} (hx : Sm x a) : Sm (flQ x) a := ⟨Nat.le_trans (len_mono (fl_le x).1) hx.1, Nat.le_trans (len_mono (fl_le x).2) hx.2⟩

set_option maxHeartbeats 4000000 in
set_option maxRecDepth 20000 in
theorem xFloor_yes (a : ByteArray) (w : World) (x : Rat) (hx : Hid (readL a.data.toList = some x)) (ht : Tab w) :
    Calls Tryd.prog 63 #[.string a] w fun e w' => e = .returned (.tuple #[.string ⟨(txt (flQ x)).toArray⟩, .int .i64 0]) ∧ Below w.heap.size w w' := by
  have sx := readL_small hx.out
  have HT_0 := hid ht
  clear ht
  go_enter Tryd.func63, Tryd.ntmps63
  go_wp2_with fail
  refine (read_yes a _ x hx.out).mono ?_
  rintro e0 w0 ⟨v, rfl, ⟨ao, n, capa, bo, m, capb, rfl, hr1, hr2⟩, hb0⟩
  have b1 : n ≤ 300 := by have := hr1.len; have := sx.1; omega
  have b2 : m ≤ 300 := by have := hr2.len; have := sx.2; omega
  have HB_0 := hid hb0
  have HT_1 := hid (HT_0.out.below hb0)
  have R0_0 := hid hr1
  have R1_0 := hid hr2
  have SX := hid sx
  clear hb0 hr1 hr2 HT_0 sx
  have YA_2 := hid (bx_new w0 #[.bool (negB x), .slice ao n capa, .slice bo m capb] 76)
  have Q0_2 := hid (R0_0.out.alloc (.cells #[.bool (negB x), .slice ao n capa, .slice bo m capb] 76))
  have Q1_2 := hid (R1_0.out.alloc (.cells #[.bool (negB x), .slice ao n capa, .slice bo m capb] 76))
  have HC_2 : Hid (Below w.heap.size w (w0.alloc (.cells #[.bool (negB x), .slice ao n capa, .slice bo m capb] 76))) := HB_0.out.alloc HB_0.out.size (.cells #[.bool (negB x), .slice ao n capa, .slice bo m capb] 76)
  have HU_2 := hid (HT_1.out.below ((Below.refl _ _).alloc (Nat.le_refl _) (.cells #[.bool (negB x), .slice ao n capa, .slice bo m capb] 76)))
  go_wp2_with fail
  refine (rfloor_any ao bo n capa m capb x _ Q0_2.out Q1_2.out (by omega) (by omega)).mono ?_
  rintro e2 w2 ⟨v2, rfl, ⟨go, gn, gc, ho, hn, hc, rfl, hg2, hh2⟩, hb2⟩
  have XA_3 := hid (YA_2.out.keep hb2)
  have R0_3 := hid (Q0_2.out.below hb2)
  have R1_3 := hid (Q1_2.out.below hb2)
  have HB_3 : Hid (Below w.heap.size w w2) := HC_2.out.trans (hb2.mono HC_2.out.size)
  have HT_3 := hid (HU_2.out.below hb2)
  have ltA := XA_3.out.lt
  have cA0 := XA_3.out.cell 0 _ rfl
  have cA1 := XA_3.out.cell 1 _ rfl
  have cA2 := XA_3.out.cell 2 _ rfl
  have Rg1_3 := hid hg2
  have Rg2_3 := hid hh2
  clear hb2 hg2 hh2
  clear ltA cA0 cA1 cA2
  have Yg_3 := hid (bx_new w2 #[.bool (negB (flQ x)), .slice go gn gc, .slice ho hn hc] 76)
  have Qg1_3 := hid (Rg1_3.out.alloc (.cells #[.bool (negB (flQ x)), .slice go gn gc, .slice ho hn hc] 76))
  have Qg2_3 := hid (Rg2_3.out.alloc (.cells #[.bool (negB (flQ x)), .slice go gn gc, .slice ho hn hc] 76))
  have HC_3 : Hid (Below w.heap.size w (w2.alloc (.cells #[.bool (negB (flQ x)), .slice go gn gc, .slice ho hn hc] 76))) := HB_3.out.alloc HB_3.out.size (.cells #[.bool (negB (flQ x)), .slice go gn gc, .slice ho hn hc] 76)
  have HU_3 := hid (HT_3.out.below ((Below.refl _ _).alloc (Nat.le_refl _) (.cells #[.bool (negB (flQ x)), .slice go gn gc, .slice ho hn hc] 76)))
  have SQ := hid SX.out.floor
  have bg : gn ≤ 30000 := by have h5 := Qg1_3.out.len; have := SQ.out.1; omega
  have bh : hn ≤ 30000 := by have h5 := Qg2_3.out.len; have := SQ.out.2; omega
  go_wp2_with fail
  refine (rtext_any go ho gn gc hn hc (flQ x) _ Qg1_3.out Qg2_3.out bg bh HU_3.out).mono ?_
  rintro e3 w3 ⟨rfl, hb3⟩
  have Xg_4 := hid (Yg_3.out.keep hb3)
  have Rg1_4 := hid (Qg1_3.out.below hb3)
  have Rg2_4 := hid (Qg2_3.out.below hb3)
  have HB_4 : Hid (Below w.heap.size w w3) := HC_3.out.trans (hb3.mono HC_3.out.size)
  have HT_4 := hid (HU_3.out.below hb3)
  have ltg := Xg_4.out.lt
  have cg0 := Xg_4.out.cell 0 _ rfl
  have cg1 := Xg_4.out.cell 1 _ rfl
  have cg2 := Xg_4.out.cell 2 _ rfl
  clear hb3
  go_wp2
  go_ret2
  exact ⟨rfl, HB_4.out⟩

set_option maxHeartbeats 4000000 in
set_option maxRecDepth 20000 in
theorem xFloor_no (a : ByteArray) (w : World) (hm : a.size ≤ maxLen) (hq : Hid (readL a.data.toList = none)) :
    Calls Tryd.prog 63 #[.string a] w fun e w' => e = .returned (.tuple #[.string ⟨#[]⟩, .int .i64 1]) ∧ Below w.heap.size w w' := by
  go_enter Tryd.func63, Tryd.ntmps63
  go_wp2_with fail
  refine (read_no a _ hm hq.out).mono ?_
  rintro e0 w0 ⟨rfl, hb0⟩
  have HB := hid hb0
  clear hb0
  go_wp2
  go_ret2
  exact ⟨rfl, HB.out.alloc HB.out.size _⟩

set_option maxHeartbeats 4000000 in
set_option maxRecDepth 20000 in
theorem xCheck_no (a : ByteArray) (w : World) (hm : a.size ≤ maxLen) (hq : Hid (readL a.data.toList = none)) :
    Calls Tryd.prog 34 #[.string a] w fun e w' => e = .returned (.int .i64 1) ∧ Below w.heap.size w w' := by
  go_enter Tryd.func34, Tryd.ntmps34
  go_wp2_with fail
  refine (read_no a _ hm hq.out).mono ?_
  rintro e0 w0 ⟨rfl, hb0⟩
  have HB := hid hb0
  clear hb0
  go_wp2
  go_ret
  exact ⟨rfl, HB.out.alloc HB.out.size _⟩

set_option maxHeartbeats 4000000 in
set_option maxRecDepth 20000 in
theorem xAdd_no (a b : ByteArray) (w : World) (hma : a.size ≤ maxLen) (hmb : b.size ≤ maxLen) (hq : ∀ x y, readL a.data.toList = some x → readL b.data.toList = some y → False) :
    Calls Tryd.prog 10 #[.string a, .string b] w fun e w' => e = .returned (.tuple #[.string ⟨#[]⟩, .int .i64 1]) ∧ Below w.heap.size w w' := by
  obtain ⟨C, HC⟩ : ∃ C : Unit, Hid (∀ w, Calls Tryd.prog 50 #[.string a, .string b] w fun e w' => e = .returned (.tuple #[.agg #[.bool false, .slice none 0 0, .slice none 0 0], .agg #[.bool false, .slice none 0 0, .slice none 0 0], .int .i64 1]) ∧ Below w.heap.size w w') := by
    refine ⟨(), fun w => ?_⟩
    cases hx : readL a.data.toList with
    | none => exact both_no1 a b w hma hx
    | some x => exact both_no2 a b w x hmb hx (by cases hy : readL b.data.toList with | none => exact hid rfl | some y => exact absurd hy (by intro h; exact hq x y hx h))
  clear hq
  go_enter Tryd.func10, Tryd.ntmps10
  go_wp2_with fail
  refine (HC.out _).mono ?_
  rintro e0 w0 ⟨rfl, hb0⟩
  have HB := hid hb0
  clear hb0
  obtain ⟨c1, c2, c5⟩ := boxes2 w0 #[.bool false, .slice none 0 0, .slice none 0 0] #[.bool false, .slice none 0 0, .slice none 0 0] 76 76
  have BB : Hid (Below w.heap.size w _) := HB.out.trans (c5.mono HB.out.size)
  clear c1 c2 c5 HB
  go_wp2
  go_ret2
  exact ⟨rfl, BB.out⟩

set_option maxHeartbeats 4000000 in
set_option maxRecDepth 20000 in
theorem xSubtract_no (a b : ByteArray) (w : World) (hma : a.size ≤ maxLen) (hmb : b.size ≤ maxLen) (hq : ∀ x y, readL a.data.toList = some x → readL b.data.toList = some y → False) :
    Calls Tryd.prog 12 #[.string a, .string b] w fun e w' => e = .returned (.tuple #[.string ⟨#[]⟩, .int .i64 1]) ∧ Below w.heap.size w w' := by
  obtain ⟨C, HC⟩ : ∃ C : Unit, Hid (∀ w, Calls Tryd.prog 50 #[.string a, .string b] w fun e w' => e = .returned (.tuple #[.agg #[.bool false, .slice none 0 0, .slice none 0 0], .agg #[.bool false, .slice none 0 0, .slice none 0 0], .int .i64 1]) ∧ Below w.heap.size w w') := by
    refine ⟨(), fun w => ?_⟩
    cases hx : readL a.data.toList with
    | none => exact both_no1 a b w hma hx
    | some x => exact both_no2 a b w x hmb hx (by cases hy : readL b.data.toList with | none => exact hid rfl | some y => exact absurd hy (by intro h; exact hq x y hx h))
  clear hq
  go_enter Tryd.func12, Tryd.ntmps12
  go_wp2_with fail
  refine (HC.out _).mono ?_
  rintro e0 w0 ⟨rfl, hb0⟩
  have HB := hid hb0
  clear hb0
  obtain ⟨c1, c2, c5⟩ := boxes2 w0 #[.bool false, .slice none 0 0, .slice none 0 0] #[.bool false, .slice none 0 0, .slice none 0 0] 76 76
  have BB : Hid (Below w.heap.size w _) := HB.out.trans (c5.mono HB.out.size)
  clear c1 c2 c5 HB
  go_wp2
  go_ret2
  exact ⟨rfl, BB.out⟩

set_option maxHeartbeats 4000000 in
set_option maxRecDepth 20000 in
theorem xMultiply_no (a b : ByteArray) (w : World) (hma : a.size ≤ maxLen) (hmb : b.size ≤ maxLen) (hq : ∀ x y, readL a.data.toList = some x → readL b.data.toList = some y → False) :
    Calls Tryd.prog 14 #[.string a, .string b] w fun e w' => e = .returned (.tuple #[.string ⟨#[]⟩, .int .i64 1]) ∧ Below w.heap.size w w' := by
  obtain ⟨C, HC⟩ : ∃ C : Unit, Hid (∀ w, Calls Tryd.prog 50 #[.string a, .string b] w fun e w' => e = .returned (.tuple #[.agg #[.bool false, .slice none 0 0, .slice none 0 0], .agg #[.bool false, .slice none 0 0, .slice none 0 0], .int .i64 1]) ∧ Below w.heap.size w w') := by
    refine ⟨(), fun w => ?_⟩
    cases hx : readL a.data.toList with
    | none => exact both_no1 a b w hma hx
    | some x => exact both_no2 a b w x hmb hx (by cases hy : readL b.data.toList with | none => exact hid rfl | some y => exact absurd hy (by intro h; exact hq x y hx h))
  clear hq
  go_enter Tryd.func14, Tryd.ntmps14
  go_wp2_with fail
  refine (HC.out _).mono ?_
  rintro e0 w0 ⟨rfl, hb0⟩
  have HB := hid hb0
  clear hb0
  obtain ⟨c1, c2, c5⟩ := boxes2 w0 #[.bool false, .slice none 0 0, .slice none 0 0] #[.bool false, .slice none 0 0, .slice none 0 0] 76 76
  have BB : Hid (Below w.heap.size w _) := HB.out.trans (c5.mono HB.out.size)
  clear c1 c2 c5 HB
  go_wp2
  go_ret2
  exact ⟨rfl, BB.out⟩

set_option maxHeartbeats 4000000 in
set_option maxRecDepth 20000 in
theorem xDivide_no (a b : ByteArray) (w : World) (hma : a.size ≤ maxLen) (hmb : b.size ≤ maxLen) (hq : ∀ x y, readL a.data.toList = some x → readL b.data.toList = some y → False) :
    Calls Tryd.prog 16 #[.string a, .string b] w fun e w' => e = .returned (.tuple #[.string ⟨#[]⟩, .int .i64 1]) ∧ Below w.heap.size w w' := by
  obtain ⟨C, HC⟩ : ∃ C : Unit, Hid (∀ w, Calls Tryd.prog 50 #[.string a, .string b] w fun e w' => e = .returned (.tuple #[.agg #[.bool false, .slice none 0 0, .slice none 0 0], .agg #[.bool false, .slice none 0 0, .slice none 0 0], .int .i64 1]) ∧ Below w.heap.size w w') := by
    refine ⟨(), fun w => ?_⟩
    cases hx : readL a.data.toList with
    | none => exact both_no1 a b w hma hx
    | some x => exact both_no2 a b w x hmb hx (by cases hy : readL b.data.toList with | none => exact hid rfl | some y => exact absurd hy (by intro h; exact hq x y hx h))
  clear hq
  go_enter Tryd.func16, Tryd.ntmps16
  go_wp2_with fail
  refine (HC.out _).mono ?_
  rintro e0 w0 ⟨rfl, hb0⟩
  have HB := hid hb0
  clear hb0
  obtain ⟨c1, c2, c5⟩ := boxes2 w0 #[.bool false, .slice none 0 0, .slice none 0 0] #[.bool false, .slice none 0 0, .slice none 0 0] 76 76
  have BB : Hid (Below w.heap.size w _) := HB.out.trans (c5.mono HB.out.size)
  clear c1 c2 c5 HB
  go_wp2
  go_ret2
  exact ⟨rfl, BB.out⟩

set_option maxHeartbeats 4000000 in
set_option maxRecDepth 20000 in
theorem xCompare_no (a b : ByteArray) (w : World) (hma : a.size ≤ maxLen) (hmb : b.size ≤ maxLen) (hq : ∀ x y, readL a.data.toList = some x → readL b.data.toList = some y → False) :
    Calls Tryd.prog 18 #[.string a, .string b] w fun e w' => e = .returned (.tuple #[.int .i64 0, .int .i64 1]) ∧ Below w.heap.size w w' := by
  obtain ⟨C, HC⟩ : ∃ C : Unit, Hid (∀ w, Calls Tryd.prog 50 #[.string a, .string b] w fun e w' => e = .returned (.tuple #[.agg #[.bool false, .slice none 0 0, .slice none 0 0], .agg #[.bool false, .slice none 0 0, .slice none 0 0], .int .i64 1]) ∧ Below w.heap.size w w') := by
    refine ⟨(), fun w => ?_⟩
    cases hx : readL a.data.toList with
    | none => exact both_no1 a b w hma hx
    | some x => exact both_no2 a b w x hmb hx (by cases hy : readL b.data.toList with | none => exact hid rfl | some y => exact absurd hy (by intro h; exact hq x y hx h))
  clear hq
  go_enter Tryd.func18, Tryd.ntmps18
  go_wp2_with fail
  refine (HC.out _).mono ?_
  rintro e0 w0 ⟨rfl, hb0⟩
  have HB := hid hb0
  clear hb0
  obtain ⟨c1, c2, c5⟩ := boxes2 w0 #[.bool false, .slice none 0 0, .slice none 0 0] #[.bool false, .slice none 0 0, .slice none 0 0] 76 76
  have BB : Hid (Below w.heap.size w _) := HB.out.trans (c5.mono HB.out.size)
  clear c1 c2 c5 HB
  go_wp2
  go_ret2
  exact ⟨rfl, BB.out⟩

end Go.Proofs.YtigokanoflkinaaDoor
