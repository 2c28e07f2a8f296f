/- portionlaw.one, Exacts: true, whatever the texts are. (Laid by mkexacts.py.) -/
import Derived.Test.YtigokanoflkinaaDoorRefEnd
import Derived.Test.YtigokanoflkinaaDoorWExD
namespace Go.Proofs.YtigokanoflkinaaDoor
set_option linter.unusedSimpArgs false
set_option linter.unusedVariables false
open Go.RowKit Por

/-- The call f of these arguments returns r, in every world with the tables, and leaves what lies there. -/
def Gives (f : FuncId) (args : Array Value) (r : Value) : Prop := ∀ w, Tab w → Calls Tryd.prog f args w fun e w' => e = .returned r ∧ Below w.heap.size w w'

theorem both_Add (a b : ByteArray) (hma : a.size ≤ maxLen) (hmb : b.size ≤ maxLen) : ∃ (S : ByteArray) (n : Int), Gives 10 #[.string a, .string b] (.tuple #[.string S, .int .i64 n]) ∧ Gives 11 #[.string a, .string b] (.tuple #[.string S, .int .i64 n]) := by
  by_cases hq : ∀ x y, readL a.data.toList = some x → readL b.data.toList = some y → False
  · exact ⟨⟨#[]⟩, 1, fun w ht => xAdd_no a b w hma hmb hq, fun w ht => pAdd_no a b w hma hmb hq⟩
  · obtain ⟨x, y, hx, hy⟩ : ∃ x y, readL a.data.toList = some x ∧ readL b.data.toList = some y :=
      Classical.byContradiction fun h => hq fun x y hx hy => h ⟨x, y, hx, hy⟩
    exact ⟨⟨(txt (x + y)).toArray⟩, 0, fun w ht => xAdd_yes a b w x y hx hy ht, fun w ht => pAdd_yes a b w x y hx hy⟩

theorem both_Subtract (a b : ByteArray) (hma : a.size ≤ maxLen) (hmb : b.size ≤ maxLen) : ∃ (S : ByteArray) (n : Int), Gives 12 #[.string a, .string b] (.tuple #[.string S, .int .i64 n]) ∧ Gives 13 #[.string a, .string b] (.tuple #[.string S, .int .i64 n]) := by
  by_cases hq : ∀ x y, readL a.data.toList = some x → readL b.data.toList = some y → False
  · exact ⟨⟨#[]⟩, 1, fun w ht => xSubtract_no a b w hma hmb hq, fun w ht => pSubtract_no a b w hma hmb hq⟩
  · obtain ⟨x, y, hx, hy⟩ : ∃ x y, readL a.data.toList = some x ∧ readL b.data.toList = some y :=
      Classical.byContradiction fun h => hq fun x y hx hy => h ⟨x, y, hx, hy⟩
    exact ⟨⟨(txt (x - y)).toArray⟩, 0, fun w ht => xSubtract_yes a b w x y hx hy ht, fun w ht => pSubtract_yes a b w x y hx hy⟩

theorem both_Multiply (a b : ByteArray) (hma : a.size ≤ maxLen) (hmb : b.size ≤ maxLen) : ∃ (S : ByteArray) (n : Int), Gives 14 #[.string a, .string b] (.tuple #[.string S, .int .i64 n]) ∧ Gives 15 #[.string a, .string b] (.tuple #[.string S, .int .i64 n]) := by
  by_cases hq : ∀ x y, readL a.data.toList = some x → readL b.data.toList = some y → False
  · exact ⟨⟨#[]⟩, 1, fun w ht => xMultiply_no a b w hma hmb hq, fun w ht => pMultiply_no a b w hma hmb hq⟩
  · obtain ⟨x, y, hx, hy⟩ : ∃ x y, readL a.data.toList = some x ∧ readL b.data.toList = some y :=
      Classical.byContradiction fun h => hq fun x y hx hy => h ⟨x, y, hx, hy⟩
    exact ⟨⟨(txt (x * y)).toArray⟩, 0, fun w ht => xMultiply_yes a b w x y hx hy ht, fun w ht => pMultiply_yes a b w x y hx hy⟩

theorem both_Divide (a b : ByteArray) (hma : a.size ≤ maxLen) (hmb : b.size ≤ maxLen) : ∃ (S : ByteArray) (n : Int), Gives 16 #[.string a, .string b] (.tuple #[.string S, .int .i64 n]) ∧ Gives 17 #[.string a, .string b] (.tuple #[.string S, .int .i64 n]) := by
  by_cases hq : ∀ x y, readL a.data.toList = some x → readL b.data.toList = some y → False
  · exact ⟨⟨#[]⟩, 1, fun w ht => xDivide_no a b w hma hmb hq, fun w ht => pDivide_no a b w hma hmb hq⟩
  · obtain ⟨x, y, hx, hy⟩ : ∃ x y, readL a.data.toList = some x ∧ readL b.data.toList = some y :=
      Classical.byContradiction fun h => hq fun x y hx hy => h ⟨x, y, hx, hy⟩
    by_cases h0 : y = 0
    · exact ⟨⟨#[]⟩, 2, fun w ht => xDivide_zero a b w x y hx hy ht (show isZ y.num.natAbs = true by rw [(num_zero y).2 h0]; rfl), fun w ht => pDivide_zero a b w x y hx hy h0⟩
    · exact ⟨⟨(txt (x / y)).toArray⟩, 0, fun w ht => xDivide_yes a b w x y hx hy ht h0, fun w ht => pDivide_yes a b w x y hx hy h0⟩

theorem both_Compare (a b : ByteArray) (hma : a.size ≤ maxLen) (hmb : b.size ≤ maxLen) : ∃ (S : Int) (n : Int), Gives 18 #[.string a, .string b] (.tuple #[.int .i64 S, .int .i64 n]) ∧ Gives 19 #[.string a, .string b] (.tuple #[.int .i64 S, .int .i64 n]) := by
  by_cases hq : ∀ x y, readL a.data.toList = some x → readL b.data.toList = some y → False
  · exact ⟨0, 1, fun w ht => xCompare_no a b w hma hmb hq, fun w ht => pCompare_no a b w hma hmb hq⟩
  · obtain ⟨x, y, hx, hy⟩ : ∃ x y, readL a.data.toList = some x ∧ readL b.data.toList = some y :=
      Classical.byContradiction fun h => hq fun x y hx hy => h ⟨x, y, hx, hy⟩
    exact ⟨cmpQ x y, 0, fun w ht => xCompare_yes a b w x y hx hy ht, fun w ht => pCompare_yes a b w x y hx hy⟩

theorem both_Check (a : ByteArray) (hm : a.size ≤ maxLen) : ∃ n : Int, Gives 34 #[.string a] (.int .i64 n) ∧ Gives 62 #[.string a] (.int .i64 n) := by
  cases hq : readL a.data.toList with
  | none => exact ⟨1, fun w ht => xCheck_no a w hm hq, fun w ht => pCheck_no a w hm hq⟩
  | some x => exact ⟨0, fun w ht => xCheck_yes a w x hq, fun w ht => pCheck_yes a w x hq⟩
theorem both_Floor (a : ByteArray) (hm : a.size ≤ maxLen) : ∃ (S : ByteArray) (n : Int), Gives 63 #[.string a] (.tuple #[.string S, .int .i64 n]) ∧ Gives 64 #[.string a] (.tuple #[.string S, .int .i64 n]) := by
  cases hq : readL a.data.toList with
  | none => exact ⟨⟨#[]⟩, 1, fun w ht => xFloor_no a w hm hq, fun w ht => pFloor_no a w hm hq⟩
  | some x => exact ⟨⟨(txt (flQ x)).toArray⟩, 0, fun w ht => xFloor_yes a w x hq ht, fun w ht => pFloor_yes a w x hq⟩

set_option maxHeartbeats 2000000 in
set_option maxRecDepth 20000 in
theorem one_holds (a : ByteArray) (w : World) (hm : a.size ≤ maxLen) (ht : Tab w) :
    Calls Tryd.prog 20 #[.string a] w fun e w' => e = .returned (.bool true) ∧ Below w.heap.size w w' := by
  have HB0 := hid (Below.refl w.heap.size w)
  have HT0 := hid ht
  clear ht
  obtain ⟨c, c1, c2⟩ := both_Check a hm
  obtain ⟨S, f, f1, f2⟩ := both_Floor a hm
  have Hc1 := hid c1
  have Hc2 := hid c2
  have Hf1 := hid f1
  have Hf2 := hid f2
  clear c1 c2 f1 f2
  go_enter Tryd.func20, Tryd.ntmps20
  go_wp2_with fail
  refine (Hc1.out _ HT0.out).mono ?_
  rintro e w1 ⟨rfl, hb⟩
  have HB1 : Hid (Below w.heap.size w w1) := HB0.out.trans (hb.mono HB0.out.size)
  have HT1 := hid (HT0.out.below hb)
  clear hb HB0 HT0
  go_wp2_with fail
  refine (Hc2.out _ HT1.out).mono ?_
  rintro e w2 ⟨rfl, hb⟩
  have HB2 : Hid (Below w.heap.size w w2) := HB1.out.trans (hb.mono HB1.out.size)
  have HT2 := hid (HT1.out.below hb)
  clear hb HB1 HT1
  go_wp2_with fail
  refine (Hf1.out _ HT2.out).mono ?_
  rintro e w3 ⟨rfl, hb⟩
  have HB3 : Hid (Below w.heap.size w w3) := HB2.out.trans (hb.mono HB2.out.size)
  have HT3 := hid (HT2.out.below hb)
  clear hb HB2 HT2
  go_wp2_with fail
  refine (Hf2.out _ HT3.out).mono ?_
  rintro e w4 ⟨rfl, hb⟩
  have HB4 : Hid (Below w.heap.size w w4) := HB3.out.trans (hb.mono HB3.out.size)
  have HT4 := hid (HT3.out.below hb)
  clear hb HB3 HT3
  go_wp2
  go_ret
  exact ⟨rfl, HB4.out⟩

set_option maxHeartbeats 2000000 in
set_option maxRecDepth 20000 in
theorem exacts_any (a b : ByteArray) (w : World) (hma : a.size ≤ maxLen) (hmb : b.size ≤ maxLen) (ht : Tab w) :
    Calls Tryd.prog 3 #[.string a, .string b] w fun e w' => e = .returned (.bool true) ∧ Below w.heap.size w w' := by
  have HB0 := hid (Below.refl w.heap.size w)
  have HT0 := hid ht
  clear ht
  obtain ⟨S0, n0, p0, q0⟩ := both_Add a b hma hmb
  have HP0 := hid p0
  have HQ0 := hid q0
  clear p0 q0
  obtain ⟨S1, n1, p1, q1⟩ := both_Subtract a b hma hmb
  have HP1 := hid p1
  have HQ1 := hid q1
  clear p1 q1
  obtain ⟨S2, n2, p2, q2⟩ := both_Multiply a b hma hmb
  have HP2 := hid p2
  have HQ2 := hid q2
  clear p2 q2
  obtain ⟨S3, n3, p3, q3⟩ := both_Divide a b hma hmb
  have HP3 := hid p3
  have HQ3 := hid q3
  clear p3 q3
  obtain ⟨S4, n4, p4, q4⟩ := both_Compare a b hma hmb
  have HP4 := hid p4
  have HQ4 := hid q4
  clear p4 q4
  have O1 : Hid (Gives 20 #[.string a] (.bool true)) := fun w ht => one_holds a w hma ht
  have O2 : Hid (Gives 20 #[.string b] (.bool true)) := fun w ht => one_holds b w hmb ht
  go_enter Tryd.func3, Tryd.ntmps3
  go_wp2_with fail
  refine (HP0.out _ HT0.out).mono ?_
  rintro e w1 ⟨rfl, hb⟩
  have HB1 : Hid (Below w.heap.size w w1) := HB0.out.trans (hb.mono HB0.out.size)
  have HT1 := hid (HT0.out.below hb)
  clear hb HB0 HT0
  go_wp2_with fail
  refine (HQ0.out _ HT1.out).mono ?_
  rintro e w2 ⟨rfl, hb⟩
  have HB2 : Hid (Below w.heap.size w w2) := HB1.out.trans (hb.mono HB1.out.size)
  have HT2 := hid (HT1.out.below hb)
  clear hb HB1 HT1
  go_wp2_with fail
  refine (HP1.out _ HT2.out).mono ?_
  rintro e w3 ⟨rfl, hb⟩
  have HB3 : Hid (Below w.heap.size w w3) := HB2.out.trans (hb.mono HB2.out.size)
  have HT3 := hid (HT2.out.below hb)
  clear hb HB2 HT2
  go_wp2_with fail
  refine (HQ1.out _ HT3.out).mono ?_
  rintro e w4 ⟨rfl, hb⟩
  have HB4 : Hid (Below w.heap.size w w4) := HB3.out.trans (hb.mono HB3.out.size)
  have HT4 := hid (HT3.out.below hb)
  clear hb HB3 HT3
  go_wp2_with fail
  refine (HP2.out _ HT4.out).mono ?_
  rintro e w5 ⟨rfl, hb⟩
  have HB5 : Hid (Below w.heap.size w w5) := HB4.out.trans (hb.mono HB4.out.size)
  have HT5 := hid (HT4.out.below hb)
  clear hb HB4 HT4
  go_wp2_with fail
  refine (HQ2.out _ HT5.out).mono ?_
  rintro e w6 ⟨rfl, hb⟩
  have HB6 : Hid (Below w.heap.size w w6) := HB5.out.trans (hb.mono HB5.out.size)
  have HT6 := hid (HT5.out.below hb)
  clear hb HB5 HT5
  go_wp2_with fail
  refine (HP3.out _ HT6.out).mono ?_
  rintro e w7 ⟨rfl, hb⟩
  have HB7 : Hid (Below w.heap.size w w7) := HB6.out.trans (hb.mono HB6.out.size)
  have HT7 := hid (HT6.out.below hb)
  clear hb HB6 HT6
  go_wp2_with fail
  refine (HQ3.out _ HT7.out).mono ?_
  rintro e w8 ⟨rfl, hb⟩
  have HB8 : Hid (Below w.heap.size w w8) := HB7.out.trans (hb.mono HB7.out.size)
  have HT8 := hid (HT7.out.below hb)
  clear hb HB7 HT7
  go_wp2_with fail
  refine (HP4.out _ HT8.out).mono ?_
  rintro e w9 ⟨rfl, hb⟩
  have HB9 : Hid (Below w.heap.size w w9) := HB8.out.trans (hb.mono HB8.out.size)
  have HT9 := hid (HT8.out.below hb)
  clear hb HB8 HT8
  go_wp2_with fail
  refine (HQ4.out _ HT9.out).mono ?_
  rintro e w10 ⟨rfl, hb⟩
  have HB10 : Hid (Below w.heap.size w w10) := HB9.out.trans (hb.mono HB9.out.size)
  have HT10 := hid (HT9.out.below hb)
  clear hb HB9 HT9
  go_wp2_with fail
  refine (O1.out _ HT10.out).mono ?_
  rintro e w11 ⟨rfl, hb⟩
  have HB11 : Hid (Below w.heap.size w w11) := HB10.out.trans (hb.mono HB10.out.size)
  have HT11 := hid (HT10.out.below hb)
  clear hb HB10 HT10
  go_wp2_with fail
  refine (O2.out _ HT11.out).mono ?_
  rintro e w12 ⟨rfl, hb⟩
  have HB12 : Hid (Below w.heap.size w w12) := HB11.out.trans (hb.mono HB11.out.size)
  have HT12 := hid (HT11.out.below hb)
  clear hb HB11 HT11
  go_wp2
  go_ret
  exact ⟨rfl, HB12.out⟩

end Go.Proofs.YtigokanoflkinaaDoor
