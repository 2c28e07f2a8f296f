/- WRd, WExA, WExB, WExC, joined. -/
import Derived.Test.YtigokanoflkinaaGreatDoorWPrs
import Derived.Test.YtigokanoflkinaaGreatDoorWTxt
import Derived.Test.YtigokanoflkinaaGreatDoorPure
import Derived.Test.YtigokanoflkinaaGreatDoorWRat
/- ratio.Read, Whole. (Laid by mkex.py.) -/
namespace Go.Proofs.YtigokanoflkinaaGreatDoor
set_option linter.unusedSimpArgs false
set_option linter.unusedVariables false
open Go.RowKit Por

/-- no more than L limbs above and below -/
def Sm (q : Rat) (L : Nat) : Prop := (limbs q.num.natAbs).length ≤ L ∧ (limbs q.den).length ≤ L

set_option maxHeartbeats 2000000 in
set_option maxRecDepth 20000 in
theorem whole_walk (n : Int) (h0 : -9223372036854775808 ≤ n) (h1 : n ≤ 9223372036854775807) (w : World) (ht : Tab w) (hs : Hid ((⟨(Go.Lib.itoa n).toArray⟩ : ByteArray).size ≤ 300)) (hq : Hid (parseL (⟨(Go.Lib.itoa n).toArray⟩ : ByteArray).data.toList = some (n : Rat))) :
    Calls Tryz.prog 46 #[.int .i64 n] w fun e w' => ∃ v, e = .returned v ∧ Frac w' v (n : Rat) ∧ Below w.heap.size w w' := by
  have HT := hid (ht.below ((Below.refl _ w).alloc (Nat.le_refl _) (.cells #[.bool false, .slice none 0 0, .slice none 0 0] 90)))
  clear ht
  have XR_0 := hid (bx_new w #[.bool false, .slice none 0 0, .slice none 0 0] 90)
  have HB_0 := hid ((Below.refl _ w).alloc (Nat.le_refl _) (.cells #[.bool false, .slice none 0 0, .slice none 0 0] 90))
  go_enter Tryz.func46, Tryz.ntmps46
  go_wp2_with fail
  refine (itoa_any n h0 h1 _ HT.out).mono ?_
  rintro e0 w0 ⟨rfl, hb0⟩
  have XR_1 := hid (XR_0.out.keep hb0)
  have HB_1 : Hid (Below w.heap.size w w0) := HB_0.out.trans (hb0.mono HB_0.out.size)
  have ltR := XR_1.out.lt
  have cR0 := XR_1.out.cell 0 _ rfl
  have zR0 := XR_1.out.frozen 0
  have cR1 := XR_1.out.cell 1 _ rfl
  have zR1 := XR_1.out.frozen 1
  have cR2 := XR_1.out.cell 2 _ rfl
  have zR2 := XR_1.out.frozen 2
  clear hb0
  go_wp2_with fail
  refine (rparse_any _ _ hs.out).mono ?_
  rintro e1 w1 hpe
  rw [hq.out] at hpe
  obtain ⟨v, rfl, ⟨uo, un, uc, yo, yn, yc, rfl, hr1, hr2⟩, hb1⟩ := hpe
  have XR_2 := hid (XR_1.out.keep hb1)
  have HB_2 : Hid (Below w.heap.size w w1) := HB_1.out.trans (hb1.mono HB_1.out.size)
  clear ltR cR0 zR0 cR1 zR1 cR2 zR2
  have ltR := XR_2.out.lt
  have cR0 := XR_2.out.cell 0 _ rfl
  have zR0 := XR_2.out.frozen 0
  have cR1 := XR_2.out.cell 1 _ rfl
  have zR1 := XR_2.out.frozen 1
  have cR2 := XR_2.out.cell 2 _ rfl
  have zR2 := XR_2.out.frozen 2
  have H1 := hid hr1
  have H2 := hid hr2
  clear hb1 hr1 hr2
  have YR_2 := hid (bx_past XR_2.out (.cells #[.bool (negB (n : Rat)), .slice uo un uc, .slice yo yn yc] 90))
  have YP_2 := hid (bx_new w1 #[.bool (negB (n : Rat)), .slice uo un uc, .slice yo yn yc] 90)
  have HC_2 : Hid (Below w.heap.size w (w1.alloc (.cells #[.bool (negB (n : Rat)), .slice uo un uc, .slice yo yn yc] 90))) := HB_2.out.alloc HB_2.out.size (.cells #[.bool (negB (n : Rat)), .slice uo un uc, .slice yo yn yc] 90)
  go_wp2
  have Z := bx_past (XR_2.out.put3 (.bool (negB (n : Rat))) (.slice uo un uc) (.slice yo yn yc)) (.cells #[.bool (negB (n : Rat)), .slice uo un uc, .slice yo yn yc] 90)
  have z0 := Z.cell 0 _ rfl
  have z1 := Z.cell 1 _ rfl
  have z2 := Z.cell 2 _ rfl
  unfold wput3 at z0 z1 z2
  have BB := below_put3 HB_2.out (Nat.le_refl _) (.bool (negB (n : Rat))) (.slice uo un uc) (.slice yo yn yc)
  refine bodyPost_ret (v := .agg #[.bool (negB (n : Rat)), .slice uo un uc, .slice yo yn yc]) (by simp [results, Tryz.results46, go_sem, z0, z1, z2]) rfl ⟨_, rfl, ⟨uo, un, uc, yo, yn, yc, rfl, ?_, ?_⟩, BB.alloc BB.size _⟩
  · exact (H1.out.put3 XR_2.out (by decide) _ _ _).alloc _
  · exact (H2.out.put3 XR_2.out (by decide) _ _ _).alloc _

theorem whole_any (n : Int) (h0 : -9223372036854775808 ≤ n) (h1 : n ≤ 9223372036854775807) (w : World) (ht : Tab w) :
    Calls Tryz.prog 46 #[.int .i64 n] w fun e w' => ∃ v, e = .returned v ∧ Frac w' v (n : Rat) ∧ Below w.heap.size w w' := by
  have h3 := (Dg.int n h0 h1).txt (by decide)
  rw [txt_int] at h3
  refine whole_walk n h0 h1 w ht ?_ ?_
  · show (Go.Lib.itoa n).toArray.size ≤ 300
    rw [List.size_toArray]; omega
  · show parseL (Go.Lib.itoa n).toArray.toList = some (n : Rat)
    rw [List.toList_toArray, ← txt_int]; exact parseL_txt _

end Go.Proofs.YtigokanoflkinaaGreatDoor

/- exact.read, readBoth, Check: what texts are read as. (Laid by mkex.py.) -/
namespace Go.Proofs.YtigokanoflkinaaGreatDoor
set_option linter.unusedSimpArgs false
set_option linter.unusedVariables false
open Go.RowKit Por
end Go.Proofs.YtigokanoflkinaaGreatDoor

/- exact.readBoth, of two texts that are fractions. (Laid by mkex.py.) -/
namespace Go.Proofs.YtigokanoflkinaaGreatDoor
set_option linter.unusedSimpArgs false
set_option linter.unusedVariables false
open Go.RowKit Por
theorem mk_small (n : Int) (d : Nat) (hd : d ≠ 0) : (limbs (mkRat n d).num.natAbs).length ≤ (limbs n.natAbs).length ∧ (limbs (mkRat n d).den).length ≤ (limbs d).length := by
  have e : mkRat n d = Rat.normalize n d hd := by unfold mkRat; rw [dif_neg hd]
  rw [e, Rat.normalize_eq]
  constructor
  · apply len_mono
    show (n / ((n.natAbs.gcd d : Nat) : Int)).natAbs ≤ n.natAbs
    exact Int.natAbs_ediv_le_natAbs _ _
  · apply len_mono
    exact Nat.div_le_self _ _
theorem Sm.mono {q : Rat} {a b : Nat} (h : Sm q a) (hab : a ≤ b) : Sm q b := ⟨Nat.le_trans h.1 hab, Nat.le_trans h.2 hab⟩
theorem Sm.add {x y : Rat} {a b : Nat} (hx : Sm x a) (hy : Sm y b) : Sm (x + y) (a + b + 1) := by
  rw [add_sg]
  obtain ⟨h1, h2⟩ := mk_small (sg (negB x) (x.num.natAbs * y.den) + sg (negB y) (y.num.natAbs * x.den)) (x.den * y.den) (Nat.mul_ne_zero x.den_nz y.den_nz)
  have l1 := len_mul x.num.natAbs y.den
  have l2 := len_mul y.num.natAbs x.den
  have l3 := len_mul x.den y.den
  have l4 : (limbs (sg (negB x) (x.num.natAbs * y.den) + sg (negB y) (y.num.natAbs * x.den)).natAbs).length ≤ (limbs (x.num.natAbs * y.den + y.num.natAbs * x.den)).length := by
    apply len_mono
    have := Int.natAbs_add_le (sg (negB x) (x.num.natAbs * y.den)) (sg (negB y) (y.num.natAbs * x.den))
    rwa [sg_abs, sg_abs] at this
  have l5 := len_add (x.num.natAbs * y.den) (y.num.natAbs * x.den)
  obtain ⟨a1, a2⟩ := hx
  obtain ⟨b1, b2⟩ := hy
  exact ⟨by omega, by omega⟩
theorem Sm.neg {x : Rat} {a : Nat} (hx : Sm x a) : Sm (-x) a := by
  have e1 : (-x).num = -x.num := rfl
  have e2 : (-x).den = x.den := rfl
  unfold Sm
  rw [e1, e2, Int.natAbs_neg]; exact hx
theorem Sm.sub {x y : Rat} {a b : Nat} (hx : Sm x a) (hy : Sm y b) : Sm (x - y) (a + b + 1) := by rw [Rat.sub_eq_add_neg]; exact hx.add hy.neg
theorem Sm.mul {x y : Rat} {a b : Nat} (hx : Sm x a) (hy : Sm y b) : Sm (x * y) (a + b) := by
  rw [mul_sg]
  obtain ⟨h1, h2⟩ := mk_small (sg (negB x != negB y) (x.num.natAbs * y.num.natAbs)) (x.den * y.den) (Nat.mul_ne_zero x.den_nz y.den_nz)
  rw [sg_abs] at h1
  have l1 := len_mul x.num.natAbs y.num.natAbs
  have l3 := len_mul x.den y.den
  obtain ⟨a1, a2⟩ := hx
  obtain ⟨b1, b2⟩ := hy
  exact ⟨by omega, by omega⟩
theorem Sm.div {x y : Rat} {a b : Nat} (hx : Sm x a) (hy : Sm y b) (h0 : y ≠ 0) : Sm (x / y) (a + b) := by
  rw [div_sg x y h0]
  obtain ⟨h1, h2⟩ := mk_small (sg (negB x != negB y) (x.num.natAbs * y.den)) (x.den * y.num.natAbs) (Nat.mul_ne_zero x.den_nz (fun h => h0 ((num_zero y).1 h)))
  rw [sg_abs] at h1
  have l1 := len_mul x.num.natAbs y.den
  have l3 := len_mul x.den y.num.natAbs
  obtain ⟨a1, a2⟩ := hx
  obtain ⟨b1, b2⟩ := hy
  exact ⟨by omega, by omega⟩

end Go.Proofs.YtigokanoflkinaaGreatDoor

/- exact.Add, Subtract, Multiply, Divide, Compare: of any two texts. (Laid by mkex.py.) -/
namespace Go.Proofs.YtigokanoflkinaaGreatDoor
set_option linter.unusedSimpArgs false
set_option linter.unusedVariables false
open Go.RowKit Por
end Go.Proofs.YtigokanoflkinaaGreatDoor
