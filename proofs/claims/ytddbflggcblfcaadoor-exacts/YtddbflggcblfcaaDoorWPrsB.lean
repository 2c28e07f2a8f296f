/- ratio.areLowest: of any two numbers. (Laid by mkprs.py.) -/
import Derived.Test.YtddbflggcblfcaaDoorWPrsA
namespace Go.Proofs.YtddbflggcblfcaaDoor
set_option linter.unusedSimpArgs false
set_option linter.unusedVariables false
open Go.RowKit Por

set_option maxHeartbeats 2000000 in
set_option maxRecDepth 20000 in
theorem low_no (ao bo : Option Addr) (n capa m capb : Nat) (x y : Nat) (w : World) (h1 : Row w ao n capa (limbs x)) (h2 : Row w bo m capb (limbs y)) (b1 : n ≤ 30000) (b2 : m ≤ 30000) (hy : y ≤ 1) :
    Calls Tryd.prog 132 #[.agg #[.slice ao n capa], .agg #[.slice bo m capb]] w fun e w' => e = .returned (.bool (lowB x y)) ∧ Below w.heap.size w w' := by
  obtain ⟨C, hC0, hc⟩ : ∃ C : Int, C ≤ 0 ∧ Hid (cmp3 (y : Int) ((1 : Nat) : Int) = C) := ⟨_, by unfold cmp3; split <;> (try split) <;> omega, rfl⟩
  have he : Hid (lowB x y = false) := by show _ = _; unfold lowB; rw [decide_eq_false (by omega)]; rfl
  clear hy
  obtain ⟨c1, c2, c5⟩ := boxes2 w #[.slice ao n capa] #[.slice bo m capb] 74 74
  have R0_0 := hid (h1.below c5)
  have R1_0 := hid (h2.below c5)
  have len0 := h1.len
  have len1 := h2.len
  have XA_0 := hid c1
  have XB_0 := hid c2
  have HB_0 := hid c5
  clear h1 h2 c1 c2 c5
  go_enter Tryd.func132, Tryd.ntmps132
  go_wp2_with fail
  refine (one_any _).mono ?_
  rintro e0 w0 ⟨v0, rfl, ⟨oo, on, oc, rfl, hr0⟩, hb0⟩
  have XA_1 := hid (XA_0.out.keep hb0)
  have XB_1 := hid (XB_0.out.keep hb0)
  have R0_1 := hid (R0_0.out.below hb0)
  have R1_1 := hid (R1_0.out.below hb0)
  have HB_1 : Hid (Below w.heap.size w w0) := HB_0.out.trans (hb0.mono HB_0.out.size)
  have ltA := XA_1.out.lt
  have cA0 := XA_1.out.cell 0 _ rfl
  have ltB := XB_1.out.lt
  have cB0 := XB_1.out.cell 0 _ rfl
  have Ro_1 := hid hr0
  have leno : on = 1 := hr0.len.symm.trans (by rw [limbs_one]; rfl)
  have leno2 : on ≤ 1 := by omega
  clear hb0 hr0 leno
  have YA_1 := hid (bx_past XA_1.out (.cells #[.slice oo on oc] 74))
  have YB_1 := hid (bx_past XB_1.out (.cells #[.slice oo on oc] 74))
  have Yo_1 := hid (bx_new w0 #[.slice oo on oc] 74)
  have Q0_1 := hid (R0_1.out.alloc (.cells #[.slice oo on oc] 74))
  have Q1_1 := hid (R1_1.out.alloc (.cells #[.slice oo on oc] 74))
  have Qo_1 := hid (Ro_1.out.alloc (.cells #[.slice oo on oc] 74))
  have HC_1 : Hid (Below w.heap.size w (w0.alloc (.cells #[.slice oo on oc] 74))) := HB_1.out.alloc HB_1.out.size (.cells #[.slice oo on oc] 74)
  go_wp2_with fail
  refine (compare_any bo oo m capb on oc y 1 _ Q1_1.out Qo_1.out (by omega) (by omega)).mono ?_
  rintro e1 w1 ⟨rfl, hb1⟩
  have XA_2 := hid (YA_1.out.keep hb1)
  have XB_2 := hid (YB_1.out.keep hb1)
  have Xo_2 := hid (Yo_1.out.keep hb1)
  have R0_2 := hid (Q0_1.out.below hb1)
  have R1_2 := hid (Q1_1.out.below hb1)
  have Ro_2 := hid (Qo_1.out.below hb1)
  have HB_2 : Hid (Below w.heap.size w w1) := HC_1.out.trans (hb1.mono HC_1.out.size)
  clear ltA cA0 ltB cB0
  have ltA := XA_2.out.lt
  have cA0 := XA_2.out.cell 0 _ rfl
  have ltB := XB_2.out.lt
  have cB0 := XB_2.out.cell 0 _ rfl
  have lto := Xo_2.out.lt
  have co0 := Xo_2.out.cell 0 _ rfl
  rw [hc.out]
  clear hb1
  go_wp2
  go_ret
  exact ⟨by rw [he.out]; rfl, HB_2.out⟩

set_option maxHeartbeats 2000000 in
set_option maxRecDepth 20000 in
theorem low_yes (ao bo : Option Addr) (n capa m capb : Nat) (x y : Nat) (w : World) (h1 : Row w ao n capa (limbs x)) (h2 : Row w bo m capb (limbs y)) (b1 : n ≤ 30000) (b2 : m ≤ 30000) (hy : 1 < y) :
    Calls Tryd.prog 132 #[.agg #[.slice ao n capa], .agg #[.slice bo m capb]] w fun e w' => e = .returned (.bool (lowB x y)) ∧ Below w.heap.size w w' := by
  have hc : Hid (cmp3 (y : Int) ((1 : Nat) : Int) = 1) := by show _ = _; unfold cmp3; rw [if_neg (by omega), if_neg (by omega)]
  obtain ⟨D, hd⟩ : ∃ D : Int, Hid (cmp3 (Nat.gcd x y : Int) ((1 : Nat) : Int) = D) := ⟨_, rfl⟩
  have hy0 : 0 < y := by omega
  have he : Hid (lowB x y = (D == 0)) := by
    show _ = _
    unfold lowB
    rw [decide_eq_true hy, ← hd.out, Bool.true_and]
    have hp : 0 < Nat.gcd x y := Nat.gcd_pos_of_pos_right x hy0
    rw [Bool.eq_iff_iff, beq_iff_eq, beq_iff_eq]
    unfold cmp3
    split <;> (try split) <;> omega
  clear hy
  obtain ⟨c1, c2, c5⟩ := boxes2 w #[.slice ao n capa] #[.slice bo m capb] 74 74
  have R0_0 := hid (h1.below c5)
  have R1_0 := hid (h2.below c5)
  have len0 := h1.len
  have len1 := h2.len
  have XA_0 := hid c1
  have XB_0 := hid c2
  have HB_0 := hid c5
  clear h1 h2 c1 c2 c5
  go_enter Tryd.func132, Tryd.ntmps132
  go_wp2_with fail
  refine (one_any _).mono ?_
  rintro e0 w0 ⟨v0, rfl, ⟨oo, on, oc, rfl, hr0⟩, hb0⟩
  have XA_1 := hid (XA_0.out.keep hb0)
  have XB_1 := hid (XB_0.out.keep hb0)
  have R0_1 := hid (R0_0.out.below hb0)
  have R1_1 := hid (R1_0.out.below hb0)
  have HB_1 : Hid (Below w.heap.size w w0) := HB_0.out.trans (hb0.mono HB_0.out.size)
  have ltA := XA_1.out.lt
  have cA0 := XA_1.out.cell 0 _ rfl
  have ltB := XB_1.out.lt
  have cB0 := XB_1.out.cell 0 _ rfl
  have Ro_1 := hid hr0
  have leno : on = 1 := hr0.len.symm.trans (by rw [limbs_one]; rfl)
  have leno2 : on ≤ 1 := by omega
  clear hb0 hr0 leno
  have YA_1 := hid (bx_past XA_1.out (.cells #[.slice oo on oc] 74))
  have YB_1 := hid (bx_past XB_1.out (.cells #[.slice oo on oc] 74))
  have Yo_1 := hid (bx_new w0 #[.slice oo on oc] 74)
  have Q0_1 := hid (R0_1.out.alloc (.cells #[.slice oo on oc] 74))
  have Q1_1 := hid (R1_1.out.alloc (.cells #[.slice oo on oc] 74))
  have Qo_1 := hid (Ro_1.out.alloc (.cells #[.slice oo on oc] 74))
  have HC_1 : Hid (Below w.heap.size w (w0.alloc (.cells #[.slice oo on oc] 74))) := HB_1.out.alloc HB_1.out.size (.cells #[.slice oo on oc] 74)
  go_wp2_with fail
  refine (compare_any bo oo m capb on oc y 1 _ Q1_1.out Qo_1.out (by omega) (by omega)).mono ?_
  rintro e1 w1 ⟨rfl, hb1⟩
  have XA_2 := hid (YA_1.out.keep hb1)
  have XB_2 := hid (YB_1.out.keep hb1)
  have Xo_2 := hid (Yo_1.out.keep hb1)
  have R0_2 := hid (Q0_1.out.below hb1)
  have R1_2 := hid (Q1_1.out.below hb1)
  have Ro_2 := hid (Qo_1.out.below hb1)
  have HB_2 : Hid (Below w.heap.size w w1) := HC_1.out.trans (hb1.mono HC_1.out.size)
  clear ltA cA0 ltB cB0
  have ltA := XA_2.out.lt
  have cA0 := XA_2.out.cell 0 _ rfl
  have ltB := XB_2.out.lt
  have cB0 := XB_2.out.cell 0 _ rfl
  have lto := Xo_2.out.lt
  have co0 := Xo_2.out.cell 0 _ rfl
  rw [hc.out]
  clear hb1
  go_wp2_with fail
  refine (gcd_any ao bo n capa m capb x y _ R0_2.out R1_2.out (by omega) (by omega)).mono ?_
  rintro e2 w2 ⟨v2, rfl, ⟨go, gn, gc, rfl, hr2⟩, hb2⟩
  have XA_3 := hid (XA_2.out.keep hb2)
  have XB_3 := hid (XB_2.out.keep hb2)
  have Xo_3 := hid (Xo_2.out.keep hb2)
  have R0_3 := hid (R0_2.out.below hb2)
  have R1_3 := hid (R1_2.out.below hb2)
  have Ro_3 := hid (Ro_2.out.below hb2)
  have HB_3 : Hid (Below w.heap.size w w2) := HB_2.out.trans (hb2.mono HB_2.out.size)
  clear ltA cA0 ltB cB0 lto co0
  have ltA := XA_3.out.lt
  have cA0 := XA_3.out.cell 0 _ rfl
  have ltB := XB_3.out.lt
  have cB0 := XB_3.out.cell 0 _ rfl
  have lto := Xo_3.out.lt
  have co0 := Xo_3.out.cell 0 _ rfl
  have Rg_3 := hid hr2
  have leng : gn ≤ 30000 := by have h5 := hr2.len; have h6 := @len_mono (Nat.gcd x y) y (Nat.gcd_le_right x hy0); omega
  clear hb2 hr2
  have YA_3 := hid (bx_past XA_3.out (.cells #[.slice go gn gc] 74))
  have YB_3 := hid (bx_past XB_3.out (.cells #[.slice go gn gc] 74))
  have Yo_3 := hid (bx_past Xo_3.out (.cells #[.slice go gn gc] 74))
  have Yg_3 := hid (bx_new w2 #[.slice go gn gc] 74)
  have Q0_3 := hid (R0_3.out.alloc (.cells #[.slice go gn gc] 74))
  have Q1_3 := hid (R1_3.out.alloc (.cells #[.slice go gn gc] 74))
  have Qo_3 := hid (Ro_3.out.alloc (.cells #[.slice go gn gc] 74))
  have Qg_3 := hid (Rg_3.out.alloc (.cells #[.slice go gn gc] 74))
  have HC_3 : Hid (Below w.heap.size w (w2.alloc (.cells #[.slice go gn gc] 74))) := HB_3.out.alloc HB_3.out.size (.cells #[.slice go gn gc] 74)
  go_wp2_with fail
  refine (compare_any go oo gn gc on oc (Nat.gcd x y) 1 _ Qg_3.out Qo_3.out (by omega) (by omega)).mono ?_
  rintro e3 w3 ⟨rfl, hb3⟩
  have XA_4 := hid (YA_3.out.keep hb3)
  have XB_4 := hid (YB_3.out.keep hb3)
  have Xo_4 := hid (Yo_3.out.keep hb3)
  have Xg_4 := hid (Yg_3.out.keep hb3)
  have R0_4 := hid (Q0_3.out.below hb3)
  have R1_4 := hid (Q1_3.out.below hb3)
  have Ro_4 := hid (Qo_3.out.below hb3)
  have Rg_4 := hid (Qg_3.out.below hb3)
  have HB_4 : Hid (Below w.heap.size w w3) := HC_3.out.trans (hb3.mono HC_3.out.size)
  clear ltA cA0 ltB cB0 lto co0
  have ltA := XA_4.out.lt
  have cA0 := XA_4.out.cell 0 _ rfl
  have ltB := XB_4.out.lt
  have cB0 := XB_4.out.cell 0 _ rfl
  have lto := Xo_4.out.lt
  have co0 := Xo_4.out.cell 0 _ rfl
  have ltg := Xg_4.out.lt
  have cg0 := Xg_4.out.cell 0 _ rfl
  rw [hd.out]
  clear hb3
  go_wp2
  go_ret
  exact ⟨by rw [he.out]; rfl, HB_4.out⟩

theorem areLowest_any (ao bo : Option Addr) (n capa m capb : Nat) (x y : Nat) (w : World) (h1 : Row w ao n capa (limbs x)) (h2 : Row w bo m capb (limbs y)) (b1 : n ≤ 30000) (b2 : m ≤ 30000) :
    Calls Tryd.prog 132 #[.agg #[.slice ao n capa], .agg #[.slice bo m capb]] w fun e w' => e = .returned (.bool (lowB x y)) ∧ Below w.heap.size w w' := by
  by_cases hy : y ≤ 1
  · exact low_no ao bo n capa m capb x y w h1 h2 b1 b2 hy
  · exact low_yes ao bo n capa m capb x y w h1 h2 b1 b2 (by omega)
end Go.Proofs.YtddbflggcblfcaaDoor
