/- The sums that the statements of portionkeep make by the program's own calls. (Laid by mkkeep.py.) -/
import Derived.Test.YtigokanoflkinabDoorWEx
namespace Go.Proofs.YtigokanoflkinabDoor
set_option linter.unusedSimpArgs false
set_option linter.unusedVariables false
open Go.RowKit Por
open Go.Lib (decDigits)

set_option maxHeartbeats 2000000 in
set_option maxRecDepth 20000 in
theorem look_ok (p : Value) (w : World) : Calls Tryd.prog 16 #[p, .int .i64 0] w fun e w' => e = .returned (.tuple #[]) ∧ w' = w := by
  go_enter Tryd.func16, Tryd.ntmps16
  go_wp2
  go_end0
  exact ⟨rfl, rfl⟩

set_option maxHeartbeats 2000000 in
set_option maxRecDepth 20000 in
theorem k_mul (p : Value) (x y : Rat) (i j : Nat) (w : World) (hx : Dg x i) (hy : Dg y j) (hi : 1 ≤ i) (hj : 1 ≤ j) (hi2 : i ≤ 149) (hj2 : j ≤ 149) (ht : Tab w) :
    Calls Tryd.prog 18 #[p, .string ⟨(txt (x)).toArray⟩, .string ⟨(txt (y)).toArray⟩] w fun e w' => e = .returned (.string ⟨(txt (x * y)).toArray⟩) ∧ Below w.heap.size w w' := by
  have C := fun w ht => xMultiply_yes ⟨(txt x).toArray⟩ ⟨(txt y).toArray⟩ w x y (hx.ok hi hi2) (hy.ok hj hj2) ht
  have HC := hid C
  have HT := hid ht
  clear C ht hx hy
  go_enter Tryd.func18, Tryd.ntmps18
  go_wp2_with fail
  refine (HC.out _ HT.out).mono ?_
  rintro e w1 ⟨rfl, hb1⟩
  have HB := hid hb1
  clear hb1
  go_wp2_with fail
  refine (look_ok p _).mono ?_
  rintro e w2 ⟨rfl, rfl⟩
  go_wp2
  go_ret
  exact ⟨rfl, HB.out⟩

set_option maxHeartbeats 2000000 in
set_option maxRecDepth 20000 in
theorem k_div (p : Value) (x y : Rat) (i j : Nat) (w : World) (hx : Dg x i) (hy : Dg y j) (hi : 1 ≤ i) (hj : 1 ≤ j) (hi2 : i ≤ 149) (hj2 : j ≤ 149) (ht : Tab w) (hy0 : y ≠ 0) :
    Calls Tryd.prog 14 #[p, .string ⟨(txt (x)).toArray⟩, .string ⟨(txt (y)).toArray⟩] w fun e w' => e = .returned (.string ⟨(txt (x / y)).toArray⟩) ∧ Below w.heap.size w w' := by
  have C := fun w ht => xDivide_yes ⟨(txt x).toArray⟩ ⟨(txt y).toArray⟩ w x y (hx.ok hi hi2) (hy.ok hj hj2) ht hy0
  have HC := hid C
  have HT := hid ht
  clear C ht hx hy hy0
  go_enter Tryd.func14, Tryd.ntmps14
  go_wp2_with fail
  refine (HC.out _ HT.out).mono ?_
  rintro e w1 ⟨rfl, hb1⟩
  have HB := hid hb1
  clear hb1
  go_wp2_with fail
  refine (look_ok p _).mono ?_
  rintro e w2 ⟨rfl, rfl⟩
  go_wp2
  go_ret
  exact ⟨rfl, HB.out⟩

set_option maxHeartbeats 2000000 in
set_option maxRecDepth 20000 in
theorem k_cmp (p : Value) (x y : Rat) (i j : Nat) (w : World) (hx : Dg x i) (hy : Dg y j) (hi : 1 ≤ i) (hj : 1 ≤ j) (hi2 : i ≤ 149) (hj2 : j ≤ 149) (ht : Tab w) :
    Calls Tryd.prog 17 #[p, .string ⟨(txt (x)).toArray⟩, .string ⟨(txt (y)).toArray⟩] w fun e w' => e = .returned (.int .i64 (cmpQ x y)) ∧ Below w.heap.size w w' := by
  have C := fun w ht => xCompare_yes ⟨(txt x).toArray⟩ ⟨(txt y).toArray⟩ w x y (hx.ok hi hi2) (hy.ok hj hj2) ht
  have HC := hid C
  have HT := hid ht
  clear C ht hx hy
  go_enter Tryd.func17, Tryd.ntmps17
  go_wp2_with fail
  refine (HC.out _ HT.out).mono ?_
  rintro e w1 ⟨rfl, hb1⟩
  have HB := hid hb1
  clear hb1
  go_wp2_with fail
  refine (look_ok p _).mono ?_
  rintro e w2 ⟨rfl, rfl⟩
  go_wp2
  go_ret
  exact ⟨rfl, HB.out⟩

/-- p over q; over 0: over 1 -/
def fr (p q : Int) : Rat := (p : Rat) / ((if q = 0 then 1 else q : Int) : Rat)
theorem int_ne {n : Int} (h : n ≠ 0) : (n : Rat) ≠ 0 := by
  intro hc
  have := congrArg Rat.num hc
  rw [Rat.num_intCast] at this
  exact h this
theorem fr_dg (p q : Int) (p0 : -9223372036854775808 ≤ p) (p1 : p ≤ 9223372036854775807) (q0 : -9223372036854775808 ≤ q) (q1 : q ≤ 9223372036854775807) : Dg (fr p q) 38 := by
  unfold fr
  refine (Dg.int p p0 p1).div (Dg.int _ ?_ ?_) (int_ne ?_)
  all_goals (split <;> omega)

set_option maxHeartbeats 2000000 in
set_option maxRecDepth 20000 in
theorem of_ok (v : Value) (p q : Int) (w : World) (p0 : -9223372036854775808 ≤ p) (p1 : p ≤ 9223372036854775807) (q0 : -9223372036854775808 ≤ q) (q1 : q ≤ 9223372036854775807) (ht : Tab w) (hq : q ≠ 0) :
    Calls Tryd.prog 6 #[v, .int .i64 p, .int .i64 q] w fun e w' => e = .returned (.string ⟨(txt (fr p q)).toArray⟩) ∧ Below w.heap.size w w' := by
  have hq' : (q == 0) = false := by rw [beq_eq_false_iff_ne]; exact hq
  have HE : Hid (fr p q = (p : Rat) / (q : Rat)) := by show _ = _; unfold fr; rw [if_neg hq]
  have HQ := hid (int_ne hq)
  have D1 := hid (Dg.int p p0 p1)
  have D2 := hid (Dg.int q q0 q1)
  have HT0 := hid ht
  clear ht hq
  go_enter Tryd.func6, Tryd.ntmps6
  go_wp2_with fail
  refine (itoa_any p p0 p1 _ HT0.out).mono ?_
  rintro e w1 ⟨rfl, hb1⟩
  have HB1 := hid hb1
  have HT1 := hid (HT0.out.below hb1)
  clear hb1
  rw [← txt_int]
  go_wp2_with fail
  refine (itoa_any q q0 q1 _ HT1.out).mono ?_
  rintro e w2 ⟨rfl, hb2⟩
  have HB2 : Hid (Below w.heap.size w w2) := HB1.out.trans (hb2.mono HB1.out.size)
  have HT2 := hid (HT1.out.below hb2)
  clear hb2
  rw [← txt_int]
  go_wp2_with fail
  refine (k_div v _ _ 19 19 _ D1.out D2.out (by omega) (by omega) (by omega) (by omega) HT2.out HQ.out).mono ?_
  rintro e w3 ⟨rfl, hb3⟩
  have HB3 : Hid (Below w.heap.size w w3) := HB2.out.trans (hb3.mono HB2.out.size)
  clear hb3
  rw [← HE.out]
  go_wp2
  go_ret
  exact ⟨rfl, HB3.out⟩

set_option maxHeartbeats 2000000 in
set_option maxRecDepth 20000 in
theorem of_zero (v : Value) (p q : Int) (w : World) (p0 : -9223372036854775808 ≤ p) (p1 : p ≤ 9223372036854775807) (q0 : -9223372036854775808 ≤ q) (q1 : q ≤ 9223372036854775807) (ht : Tab w) (hq : q = 0) :
    Calls Tryd.prog 6 #[v, .int .i64 p, .int .i64 q] w fun e w' => e = .returned (.string ⟨(txt (fr p q)).toArray⟩) ∧ Below w.heap.size w w' := by
  have HE : Hid (fr p q = (p : Rat) / ((1 : Int) : Rat)) := by show _ = _; unfold fr; rw [if_pos hq]
  have HQ := hid (int_ne (show (1 : Int) ≠ 0 by omega))
  have D1 := hid (Dg.int p p0 p1)
  have D2 := hid (Dg.int 1 (by omega) (by omega))
  have D0 := hid (Dg.int 0 (by omega) (by omega))
  have HT0 := hid ht
  rw [HE.out]
  subst hq
  clear ht HE
  have e0 : txt ((0 : Int) : Rat) = [48] := by rw [txt_int]; unfold Go.Lib.itoa; rw [if_neg (by omega)]; exact dec_small (by omega)
  have E0 := hid e0
  clear e0
  have HZ : Hid (isZ ((0 : Int) : Rat).num.natAbs = true) := rfl
  go_enter Tryd.func6, Tryd.ntmps6
  go_wp2_with fail
  refine (itoa_any p p0 p1 _ HT0.out).mono ?_
  rintro e w1 ⟨rfl, hb1⟩
  have HB1 := hid hb1
  have HT1 := hid (HT0.out.below hb1)
  clear hb1
  rw [← txt_int]
  go_wp2_with fail
  have C := xDivide_zero ⟨(txt (p : Rat)).toArray⟩ ⟨(txt ((0 : Int) : Rat)).toArray⟩ w1 _ _ (D1.out.ok (by omega) (by omega)) (D0.out.ok (by omega) (by omega)) HT1.out HZ
  rw [E0.out] at C
  refine C.mono ?_
  rintro e w2 ⟨rfl, hb2⟩
  have HB2 : Hid (Below w.heap.size w w2) := HB1.out.trans (hb2.mono HB1.out.size)
  have HT2 := hid (HT1.out.below hb2)
  clear hb2 C
  go_wp2_with fail
  refine (itoa_any p p0 p1 _ HT2.out).mono ?_
  rintro e w3 ⟨rfl, hb3⟩
  have HB3 : Hid (Below w.heap.size w w3) := HB2.out.trans (hb3.mono HB2.out.size)
  have HT3 := hid (HT2.out.below hb3)
  clear hb3
  rw [← txt_int]
  go_wp2_with fail
  refine (itoa_any 1 (by omega) (by omega) _ HT3.out).mono ?_
  rintro e w4 ⟨rfl, hb4⟩
  have HB4 : Hid (Below w.heap.size w w4) := HB3.out.trans (hb4.mono HB3.out.size)
  have HT4 := hid (HT3.out.below hb4)
  clear hb4
  rw [← txt_int 1]
  go_wp2_with fail
  refine (k_div v _ _ 19 19 _ D1.out D2.out (by omega) (by omega) (by omega) (by omega) HT4.out HQ.out).mono ?_
  rintro e w5 ⟨rfl, hb5⟩
  have HB5 : Hid (Below w.heap.size w w5) := HB4.out.trans (hb5.mono HB4.out.size)
  clear hb5
  go_wp2
  go_ret
  exact ⟨rfl, HB5.out⟩

theorem of_any (v : Value) (p q : Int) (w : World) (p0 : -9223372036854775808 ≤ p) (p1 : p ≤ 9223372036854775807) (q0 : -9223372036854775808 ≤ q) (q1 : q ≤ 9223372036854775807) (ht : Tab w) :
    Calls Tryd.prog 6 #[v, .int .i64 p, .int .i64 q] w fun e w' => e = .returned (.string ⟨(txt (fr p q)).toArray⟩) ∧ Below w.heap.size w w' := by
  by_cases h : q = 0
  · exact of_zero v p q w p0 p1 q0 q1 ht h
  · exact of_ok v p q w p0 p1 q0 q1 ht h
end Go.Proofs.YtigokanoflkinabDoor
