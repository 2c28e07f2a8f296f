/- portionref.sum: the sum of any two fractions of the reference. (Laid by mkrefs.py.) -/
import Derived.Test.YtddbflggcblfcaaDoorRefBD
import Derived.Test.YtddbflggcblfcaaDoorRefE
import Derived.Test.YtddbflggcblfcaaDoorWRatB
namespace Go.Proofs.YtddbflggcblfcaaDoor
set_option linter.unusedSimpArgs false
set_option linter.unusedVariables false
open Go.RowKit Por

/-- A fraction of the reference in memory: below 0 or not, p over q. -/
def PNv (w : World) (v : Value) (m : Bool) (p q : Nat) : Prop := ∃ ao n capa bo k capb, v = .agg #[.bool m, .slice ao n capa, .slice bo k capb] ∧ Row w ao n capa (limbs p) ∧ Row w bo k capb (limbs q)
theorem Bx.set0 {w : World} {b : Nat} {x0 x1 x2 : Value} {T : TypeId} (h : Bx w b #[x0, x1, x2] T) (u : Value) : Bx (w.setCell ⟨b, 0, none⟩ u) b #[u, x1, x2] T := by
  unfold Bx
  rw [heap_setCell_same w b 0 _ _ u h]; rfl
theorem Bx.set1 {w : World} {b : Nat} {x0 x1 x2 : Value} {T : TypeId} (h : Bx w b #[x0, x1, x2] T) (u : Value) : Bx (w.setCell ⟨b, 1, none⟩ u) b #[x0, u, x2] T := by
  unfold Bx
  rw [heap_setCell_same w b 1 _ _ u h]; rfl

set_option maxHeartbeats 2000000 in
set_option maxRecDepth 20000 in
theorem psum_ff_same (ao bo co eo : Option Addr) (n capa m capb p capc q capd : Nat) (p1 q1 p2 q2 : Nat) (w : World) (h1 : Row w ao n capa (limbs p1)) (h2 : Row w bo m capb (limbs q1)) (h3 : Row w co p capc (limbs p2)) (h4 : Row w eo q capd (limbs q2)) (b1 : n ≤ 1000) (b2 : m ≤ 1000) (b3 : p ≤ 1000) (b4 : q ≤ 1000) :
    Calls Tryd.prog 54 #[.agg #[.bool false, .slice ao n capa, .slice bo m capb], .agg #[.bool false, .slice co p capc, .slice eo q capd]] w fun e w' => ∃ v m z, e = .returned v ∧ sg m z = sg false (p1 * q2) + sg false (p2 * q1) ∧ z ≤ p1 * q2 + p2 * q1 ∧ PNv w' v m z (q1 * q2) ∧ Below w.heap.size w w' := by
  have hsg : Hid (sg false (p1 * q2 + p2 * q1) = sg false (p1 * q2) + sg false (p2 * q1)) := (sg_same _ _ _).symm
  obtain ⟨c1, c2, c3, c5⟩ := boxes3 w #[.bool false, .slice ao n capa, .slice bo m capb] #[.bool false, .slice co p capc, .slice eo q capd] #[.bool false, .slice none 0 0, .slice none 0 0] 82 82 82
  have R0_0 := hid (h1.below c5)
  have len0 := h1.len
  have R1_0 := hid (h2.below c5)
  have len1 := h2.len
  have R2_0 := hid (h3.below c5)
  have len2 := h3.len
  have R3_0 := hid (h4.below c5)
  have len3 := h4.len
  have XA_0 := hid c1
  have XB_0 := hid c2
  have XR_0 := hid c3
  have HB_0 := hid c5
  clear h1 h2 h3 h4 c1 c2 c3 c5
  go_enter Tryd.func54, Tryd.ntmps54
  go_wp2_with fail
  refine (ptimes_any ao eo n capa q capd p1 q2 _ R0_0.out R3_0.out (by omega) (by omega)).mono ?_
  rintro e0 w0 ⟨v0, rfl, ⟨uo, un, uc, rfl, hr0, _⟩, hb0⟩
  have XA_1 := hid (XA_0.out.keep hb0)
  have XB_1 := hid (XB_0.out.keep hb0)
  have XR_1 := hid (XR_0.out.keep hb0)
  have R0_1 := hid (R0_0.out.below hb0)
  have R1_1 := hid (R1_0.out.below hb0)
  have R2_1 := hid (R2_0.out.below hb0)
  have R3_1 := hid (R3_0.out.below hb0)
  have HB_1 : Hid (Below w.heap.size w w0) := HB_0.out.trans (hb0.mono HB_0.out.size)
  have ltA := XA_1.out.lt
  have cA0 := XA_1.out.cell 0 _ rfl
  have cA1 := XA_1.out.cell 1 _ rfl
  have cA2 := XA_1.out.cell 2 _ rfl
  have ltB := XB_1.out.lt
  have cB0 := XB_1.out.cell 0 _ rfl
  have cB1 := XB_1.out.cell 1 _ rfl
  have cB2 := XB_1.out.cell 2 _ rfl
  have ltR := XR_1.out.lt
  have cR0 := XR_1.out.cell 0 _ rfl
  have zR0 := XR_1.out.frozen 0
  have cR1 := XR_1.out.cell 1 _ rfl
  have zR1 := XR_1.out.frozen 1
  have cR2 := XR_1.out.cell 2 _ rfl
  have zR2 := XR_1.out.frozen 2
  have Ru_1 := hid hr0
  have lenu := hr0.len
  have bdu : un ≤ 2000 := by rw [← lenu]; exact Nat.le_trans (prod_len len0 len3) (by omega)
  clear hb0 hr0
  go_wp2_with fail
  refine (ptimes_any co bo p capc m capb p2 q1 _ R2_1.out R1_1.out (by omega) (by omega)).mono ?_
  rintro e1 w1 ⟨v1, rfl, ⟨vo, vn, vc, rfl, hr1, _⟩, hb1⟩
  have XA_2 := hid (XA_1.out.keep hb1)
  have XB_2 := hid (XB_1.out.keep hb1)
  have XR_2 := hid (XR_1.out.keep hb1)
  have R0_2 := hid (R0_1.out.below hb1)
  have R1_2 := hid (R1_1.out.below hb1)
  have R2_2 := hid (R2_1.out.below hb1)
  have R3_2 := hid (R3_1.out.below hb1)
  have Ru_2 := hid (Ru_1.out.below hb1)
  have HB_2 : Hid (Below w.heap.size w w1) := HB_1.out.trans (hb1.mono HB_1.out.size)
  clear ltA cA0 cA1 cA2 ltB cB0 cB1 cB2 ltR cR0 zR0 cR1 zR1 cR2 zR2
  have ltA := XA_2.out.lt
  have cA0 := XA_2.out.cell 0 _ rfl
  have cA1 := XA_2.out.cell 1 _ rfl
  have cA2 := XA_2.out.cell 2 _ rfl
  have ltB := XB_2.out.lt
  have cB0 := XB_2.out.cell 0 _ rfl
  have cB1 := XB_2.out.cell 1 _ rfl
  have cB2 := XB_2.out.cell 2 _ rfl
  have ltR := XR_2.out.lt
  have cR0 := XR_2.out.cell 0 _ rfl
  have zR0 := XR_2.out.frozen 0
  have cR1 := XR_2.out.cell 1 _ rfl
  have zR1 := XR_2.out.frozen 1
  have cR2 := XR_2.out.cell 2 _ rfl
  have zR2 := XR_2.out.frozen 2
  have Rv_2 := hid hr1
  have lenv := hr1.len
  have bdv : vn ≤ 2000 := by rw [← lenv]; exact Nat.le_trans (prod_len len2 len1) (by omega)
  clear hb1 hr1
  go_wp2_with fail
  refine (ptimes_any bo eo m capb q capd q1 q2 _ R1_2.out R3_2.out (by omega) (by omega)).mono ?_
  rintro e2 w2 ⟨v2, rfl, ⟨ko, kn, kc, rfl, hr2, _⟩, hb2⟩
  have XA_3 := hid (XA_2.out.keep hb2)
  have XB_3 := hid (XB_2.out.keep hb2)
  have XR_3 := hid (XR_2.out.keep hb2)
  have R0_3 := hid (R0_2.out.below hb2)
  have R1_3 := hid (R1_2.out.below hb2)
  have R2_3 := hid (R2_2.out.below hb2)
  have R3_3 := hid (R3_2.out.below hb2)
  have Ru_3 := hid (Ru_2.out.below hb2)
  have Rv_3 := hid (Rv_2.out.below hb2)
  have HB_3 : Hid (Below w.heap.size w w2) := HB_2.out.trans (hb2.mono HB_2.out.size)
  clear ltA cA0 cA1 cA2 ltB cB0 cB1 cB2 ltR cR0 zR0 cR1 zR1 cR2 zR2
  have ltA := XA_3.out.lt
  have cA0 := XA_3.out.cell 0 _ rfl
  have cA1 := XA_3.out.cell 1 _ rfl
  have cA2 := XA_3.out.cell 2 _ rfl
  have ltB := XB_3.out.lt
  have cB0 := XB_3.out.cell 0 _ rfl
  have cB1 := XB_3.out.cell 1 _ rfl
  have cB2 := XB_3.out.cell 2 _ rfl
  have ltR := XR_3.out.lt
  have cR0 := XR_3.out.cell 0 _ rfl
  have zR0 := XR_3.out.frozen 0
  have cR1 := XR_3.out.cell 1 _ rfl
  have zR1 := XR_3.out.frozen 1
  have cR2 := XR_3.out.cell 2 _ rfl
  have zR2 := XR_3.out.frozen 2
  have Rk_3 := hid hr2
  have lenk := hr2.len
  have bdk : kn ≤ 2000 := by rw [← lenk]; exact Nat.le_trans (prod_len len1 len3) (by omega)
  clear hb2 hr2
  have nA := XA_3.out.lt
  have nB := XB_3.out.lt
  have nR := XR_3.out.lt
  have YA_3 := hid (bx_past XA_3.out (.cells #[.bool false, .slice none 0 0, .slice ko kn kc] 82))
  have YB_3 := hid (bx_past XB_3.out (.cells #[.bool false, .slice none 0 0, .slice ko kn kc] 82))
  have YR_3 := hid (bx_past XR_3.out (.cells #[.bool false, .slice none 0 0, .slice ko kn kc] 82))
  have YX_3 := hid (bx_new w2 #[.bool false, .slice none 0 0, .slice ko kn kc] 82)
  have Q0_3 := hid (R0_3.out.alloc (.cells #[.bool false, .slice none 0 0, .slice ko kn kc] 82))
  have Q1_3 := hid (R1_3.out.alloc (.cells #[.bool false, .slice none 0 0, .slice ko kn kc] 82))
  have Q2_3 := hid (R2_3.out.alloc (.cells #[.bool false, .slice none 0 0, .slice ko kn kc] 82))
  have Q3_3 := hid (R3_3.out.alloc (.cells #[.bool false, .slice none 0 0, .slice ko kn kc] 82))
  have Qu_3 := hid (Ru_3.out.alloc (.cells #[.bool false, .slice none 0 0, .slice ko kn kc] 82))
  have Qv_3 := hid (Rv_3.out.alloc (.cells #[.bool false, .slice none 0 0, .slice ko kn kc] 82))
  have Qk_3 := hid (Rk_3.out.alloc (.cells #[.bool false, .slice none 0 0, .slice ko kn kc] 82))
  have HC_3 : Hid (Below w.heap.size w (w2.alloc (.cells #[.bool false, .slice none 0 0, .slice ko kn kc] 82))) := HB_3.out.alloc HB_3.out.size (.cells #[.bool false, .slice none 0 0, .slice ko kn kc] 82)
  go_wp2_with fail
  refine (pcmp_any uo vo un uc vn vc (p1 * q2) (p2 * q1) _ Qu_3.out Qv_3.out (by omega) (by omega)).mono ?_
  rintro e3 w3 ⟨rfl, hb3⟩
  have XA_4 := hid (YA_3.out.keep hb3)
  have XB_4 := hid (YB_3.out.keep hb3)
  have XR_4 := hid (YR_3.out.keep hb3)
  have XX_4 := hid (YX_3.out.keep hb3)
  have R0_4 := hid (Q0_3.out.below hb3)
  have R1_4 := hid (Q1_3.out.below hb3)
  have R2_4 := hid (Q2_3.out.below hb3)
  have R3_4 := hid (Q3_3.out.below hb3)
  have Ru_4 := hid (Qu_3.out.below hb3)
  have Rv_4 := hid (Qv_3.out.below hb3)
  have Rk_4 := hid (Qk_3.out.below hb3)
  have HB_4 : Hid (Below w.heap.size w w3) := HC_3.out.trans (hb3.mono HC_3.out.size)
  clear ltA cA0 cA1 cA2 ltB cB0 cB1 cB2 ltR cR0 zR0 cR1 zR1 cR2 zR2
  have ltA := XA_4.out.lt
  have cA0 := XA_4.out.cell 0 _ rfl
  have cA1 := XA_4.out.cell 1 _ rfl
  have cA2 := XA_4.out.cell 2 _ rfl
  have ltB := XB_4.out.lt
  have cB0 := XB_4.out.cell 0 _ rfl
  have cB1 := XB_4.out.cell 1 _ rfl
  have cB2 := XB_4.out.cell 2 _ rfl
  have ltR := XR_4.out.lt
  have cR0 := XR_4.out.cell 0 _ rfl
  have zR0 := XR_4.out.frozen 0
  have cR1 := XR_4.out.cell 1 _ rfl
  have zR1 := XR_4.out.frozen 1
  have cR2 := XR_4.out.cell 2 _ rfl
  have zR2 := XR_4.out.frozen 2
  have ltX := XX_4.out.lt
  have cX0 := XX_4.out.cell 0 _ rfl
  have zX0 := XX_4.out.frozen 0
  have cX1 := XX_4.out.cell 1 _ rfl
  have zX1 := XX_4.out.frozen 1
  have cX2 := XX_4.out.cell 2 _ rfl
  have zX2 := XX_4.out.frozen 2
  clear hb3
  generalize cmp3 ((p1 * q2 : Nat) : Int) ((p2 * q1 : Nat) : Int) = C
  go_wp2_with fail
  obtain ⟨V, hV⟩ : ∃ V, V = w3.setCell ⟨w2.heap.size, 0, none⟩ (.bool false) := ⟨_, rfl⟩
  rw [← hV]
  have VA := hid (XA_4.out.other ⟨w2.heap.size, 0, none⟩ (.bool false) (by show w2.heap.size ≠ _; omega))
  have VB := hid (XB_4.out.other ⟨w2.heap.size, 0, none⟩ (.bool false) (by show w2.heap.size ≠ _; omega))
  have VR := hid (XR_4.out.other ⟨w2.heap.size, 0, none⟩ (.bool false) (by show w2.heap.size ≠ _; omega))
  have VX := hid (XX_4.out.set0 (.bool false))
  have U0 := hid (R0_4.out.other w2.heap.size 0 (.bool false) XX_4.out (by decide))
  have U1 := hid (R1_4.out.other w2.heap.size 0 (.bool false) XX_4.out (by decide))
  have U2 := hid (R2_4.out.other w2.heap.size 0 (.bool false) XX_4.out (by decide))
  have U3 := hid (R3_4.out.other w2.heap.size 0 (.bool false) XX_4.out (by decide))
  have Uu := hid (Ru_4.out.other w2.heap.size 0 (.bool false) XX_4.out (by decide))
  have Uv := hid (Rv_4.out.other w2.heap.size 0 (.bool false) XX_4.out (by decide))
  have Uk := hid (Rk_4.out.other w2.heap.size 0 (.bool false) XX_4.out (by decide))
  have VBel := hid (HB_4.out.setCell (p := ⟨w2.heap.size, 0, none⟩) (by show w.heap.size ≤ w2.heap.size; omega) (.bool false))
  rw [← hV] at VBel VA VB VR VX U0 U1 U2 U3 Uu Uv Uk
  clear hV
  refine (pplus_any uo vo un uc vn vc (p1 * q2) (p2 * q1) _ Uu.out Uv.out (by omega) (by omega)).mono ?_
  rintro e4 w4 ⟨v4, rfl, ⟨so, sn, sc, rfl, hr4, _⟩, hb4⟩
  have XA_5 := hid (VA.out.keep hb4)
  have XB_5 := hid (VB.out.keep hb4)
  have XR_5 := hid (VR.out.keep hb4)
  have XX_5 := hid (VX.out.keep hb4)
  have R0_5 := hid (U0.out.below hb4)
  have R1_5 := hid (U1.out.below hb4)
  have R2_5 := hid (U2.out.below hb4)
  have R3_5 := hid (U3.out.below hb4)
  have Ru_5 := hid (Uu.out.below hb4)
  have Rv_5 := hid (Uv.out.below hb4)
  have Rk_5 := hid (Uk.out.below hb4)
  have HB_5 : Hid (Below w.heap.size w w4) := VBel.out.trans (hb4.mono VBel.out.size)
  clear ltA cA0 cA1 cA2 ltB cB0 cB1 cB2 ltR cR0 zR0 cR1 zR1 cR2 zR2 ltX cX0 zX0 cX1 zX1 cX2 zX2
  have ltA := XA_5.out.lt
  have cA0 := XA_5.out.cell 0 _ rfl
  have cA1 := XA_5.out.cell 1 _ rfl
  have cA2 := XA_5.out.cell 2 _ rfl
  have ltB := XB_5.out.lt
  have cB0 := XB_5.out.cell 0 _ rfl
  have cB1 := XB_5.out.cell 1 _ rfl
  have cB2 := XB_5.out.cell 2 _ rfl
  have ltR := XR_5.out.lt
  have cR0 := XR_5.out.cell 0 _ rfl
  have zR0 := XR_5.out.frozen 0
  have cR1 := XR_5.out.cell 1 _ rfl
  have zR1 := XR_5.out.frozen 1
  have cR2 := XR_5.out.cell 2 _ rfl
  have zR2 := XR_5.out.frozen 2
  have ltX := XX_5.out.lt
  have cX0 := XX_5.out.cell 0 _ rfl
  have zX0 := XX_5.out.frozen 0
  have cX1 := XX_5.out.cell 1 _ rfl
  have zX1 := XX_5.out.frozen 1
  have cX2 := XX_5.out.cell 2 _ rfl
  have zX2 := XX_5.out.frozen 2
  have RS := hid hr4
  clear hb4 hr4
  go_wp2
  have P1 := XX_5.out.set1 (.slice so sn sc)
  have P0 := XR_5.out.other ⟨w2.heap.size, 1, none⟩ (.slice so sn sc) (by show w2.heap.size ≠ _; omega)
  have Z := P0.put3 (.bool false) (.slice so sn sc) (.slice ko kn kc)
  have z0 := Z.cell 0 _ rfl
  have z1 := Z.cell 1 _ rfl
  have z2 := Z.cell 2 _ rfl
  unfold wput3 at z0 z1 z2
  have BB := below_put3 (HB_5.out.setCell (p := ⟨w2.heap.size, 1, none⟩) (by show w.heap.size ≤ w2.heap.size; omega) (.slice so sn sc)) (by omega : w.heap.size ≤ w.heap.size + 1 + 1) (.bool false) (.slice so sn sc) (.slice ko kn kc)
  refine bodyPost_ret (v := .agg #[.bool false, .slice so sn sc, .slice ko kn kc]) (by simp [results, Tryd.results54, go_sem, z0, z1, z2]) rfl ⟨_, false, p1 * q2 + p2 * q1, rfl, hsg.out, ?_, ⟨so, sn, sc, ko, kn, kc, rfl, ?_, ?_⟩, BB⟩
  · omega
  · exact (RS.out.other _ _ _ XX_5.out (by decide)).put3 P0 (by decide) _ _ _
  · exact (Rk_5.out.other _ _ _ XX_5.out (by decide)).put3 P0 (by decide) _ _ _

set_option maxHeartbeats 2000000 in
set_option maxRecDepth 20000 in
theorem psum_tt_same (ao bo co eo : Option Addr) (n capa m capb p capc q capd : Nat) (p1 q1 p2 q2 : Nat) (w : World) (h1 : Row w ao n capa (limbs p1)) (h2 : Row w bo m capb (limbs q1)) (h3 : Row w co p capc (limbs p2)) (h4 : Row w eo q capd (limbs q2)) (b1 : n ≤ 1000) (b2 : m ≤ 1000) (b3 : p ≤ 1000) (b4 : q ≤ 1000) :
    Calls Tryd.prog 54 #[.agg #[.bool true, .slice ao n capa, .slice bo m capb], .agg #[.bool true, .slice co p capc, .slice eo q capd]] w fun e w' => ∃ v m z, e = .returned v ∧ sg m z = sg true (p1 * q2) + sg true (p2 * q1) ∧ z ≤ p1 * q2 + p2 * q1 ∧ PNv w' v m z (q1 * q2) ∧ Below w.heap.size w w' := by
  have hsg : Hid (sg true (p1 * q2 + p2 * q1) = sg true (p1 * q2) + sg true (p2 * q1)) := (sg_same _ _ _).symm
  obtain ⟨c1, c2, c3, c5⟩ := boxes3 w #[.bool true, .slice ao n capa, .slice bo m capb] #[.bool true, .slice co p capc, .slice eo q capd] #[.bool false, .slice none 0 0, .slice none 0 0] 82 82 82
  have R0_0 := hid (h1.below c5)
  have len0 := h1.len
  have R1_0 := hid (h2.below c5)
  have len1 := h2.len
  have R2_0 := hid (h3.below c5)
  have len2 := h3.len
  have R3_0 := hid (h4.below c5)
  have len3 := h4.len
  have XA_0 := hid c1
  have XB_0 := hid c2
  have XR_0 := hid c3
  have HB_0 := hid c5
  clear h1 h2 h3 h4 c1 c2 c3 c5
  go_enter Tryd.func54, Tryd.ntmps54
  go_wp2_with fail
  refine (ptimes_any ao eo n capa q capd p1 q2 _ R0_0.out R3_0.out (by omega) (by omega)).mono ?_
  rintro e0 w0 ⟨v0, rfl, ⟨uo, un, uc, rfl, hr0, _⟩, hb0⟩
  have XA_1 := hid (XA_0.out.keep hb0)
  have XB_1 := hid (XB_0.out.keep hb0)
  have XR_1 := hid (XR_0.out.keep hb0)
  have R0_1 := hid (R0_0.out.below hb0)
  have R1_1 := hid (R1_0.out.below hb0)
  have R2_1 := hid (R2_0.out.below hb0)
  have R3_1 := hid (R3_0.out.below hb0)
  have HB_1 : Hid (Below w.heap.size w w0) := HB_0.out.trans (hb0.mono HB_0.out.size)
  have ltA := XA_1.out.lt
  have cA0 := XA_1.out.cell 0 _ rfl
  have cA1 := XA_1.out.cell 1 _ rfl
  have cA2 := XA_1.out.cell 2 _ rfl
  have ltB := XB_1.out.lt
  have cB0 := XB_1.out.cell 0 _ rfl
  have cB1 := XB_1.out.cell 1 _ rfl
  have cB2 := XB_1.out.cell 2 _ rfl
  have ltR := XR_1.out.lt
  have cR0 := XR_1.out.cell 0 _ rfl
  have zR0 := XR_1.out.frozen 0
  have cR1 := XR_1.out.cell 1 _ rfl
  have zR1 := XR_1.out.frozen 1
  have cR2 := XR_1.out.cell 2 _ rfl
  have zR2 := XR_1.out.frozen 2
  have Ru_1 := hid hr0
  have lenu := hr0.len
  have bdu : un ≤ 2000 := by rw [← lenu]; exact Nat.le_trans (prod_len len0 len3) (by omega)
  clear hb0 hr0
  go_wp2_with fail
  refine (ptimes_any co bo p capc m capb p2 q1 _ R2_1.out R1_1.out (by omega) (by omega)).mono ?_
  rintro e1 w1 ⟨v1, rfl, ⟨vo, vn, vc, rfl, hr1, _⟩, hb1⟩
  have XA_2 := hid (XA_1.out.keep hb1)
  have XB_2 := hid (XB_1.out.keep hb1)
  have XR_2 := hid (XR_1.out.keep hb1)
  have R0_2 := hid (R0_1.out.below hb1)
  have R1_2 := hid (R1_1.out.below hb1)
  have R2_2 := hid (R2_1.out.below hb1)
  have R3_2 := hid (R3_1.out.below hb1)
  have Ru_2 := hid (Ru_1.out.below hb1)
  have HB_2 : Hid (Below w.heap.size w w1) := HB_1.out.trans (hb1.mono HB_1.out.size)
  clear ltA cA0 cA1 cA2 ltB cB0 cB1 cB2 ltR cR0 zR0 cR1 zR1 cR2 zR2
  have ltA := XA_2.out.lt
  have cA0 := XA_2.out.cell 0 _ rfl
  have cA1 := XA_2.out.cell 1 _ rfl
  have cA2 := XA_2.out.cell 2 _ rfl
  have ltB := XB_2.out.lt
  have cB0 := XB_2.out.cell 0 _ rfl
  have cB1 := XB_2.out.cell 1 _ rfl
  have cB2 := XB_2.out.cell 2 _ rfl
  have ltR := XR_2.out.lt
  have cR0 := XR_2.out.cell 0 _ rfl
  have zR0 := XR_2.out.frozen 0
  have cR1 := XR_2.out.cell 1 _ rfl
  have zR1 := XR_2.out.frozen 1
  have cR2 := XR_2.out.cell 2 _ rfl
  have zR2 := XR_2.out.frozen 2
  have Rv_2 := hid hr1
  have lenv := hr1.len
  have bdv : vn ≤ 2000 := by rw [← lenv]; exact Nat.le_trans (prod_len len2 len1) (by omega)
  clear hb1 hr1
  go_wp2_with fail
  refine (ptimes_any bo eo m capb q capd q1 q2 _ R1_2.out R3_2.out (by omega) (by omega)).mono ?_
  rintro e2 w2 ⟨v2, rfl, ⟨ko, kn, kc, rfl, hr2, _⟩, hb2⟩
  have XA_3 := hid (XA_2.out.keep hb2)
  have XB_3 := hid (XB_2.out.keep hb2)
  have XR_3 := hid (XR_2.out.keep hb2)
  have R0_3 := hid (R0_2.out.below hb2)
  have R1_3 := hid (R1_2.out.below hb2)
  have R2_3 := hid (R2_2.out.below hb2)
  have R3_3 := hid (R3_2.out.below hb2)
  have Ru_3 := hid (Ru_2.out.below hb2)
  have Rv_3 := hid (Rv_2.out.below hb2)
  have HB_3 : Hid (Below w.heap.size w w2) := HB_2.out.trans (hb2.mono HB_2.out.size)
  clear ltA cA0 cA1 cA2 ltB cB0 cB1 cB2 ltR cR0 zR0 cR1 zR1 cR2 zR2
  have ltA := XA_3.out.lt
  have cA0 := XA_3.out.cell 0 _ rfl
  have cA1 := XA_3.out.cell 1 _ rfl
  have cA2 := XA_3.out.cell 2 _ rfl
  have ltB := XB_3.out.lt
  have cB0 := XB_3.out.cell 0 _ rfl
  have cB1 := XB_3.out.cell 1 _ rfl
  have cB2 := XB_3.out.cell 2 _ rfl
  have ltR := XR_3.out.lt
  have cR0 := XR_3.out.cell 0 _ rfl
  have zR0 := XR_3.out.frozen 0
  have cR1 := XR_3.out.cell 1 _ rfl
  have zR1 := XR_3.out.frozen 1
  have cR2 := XR_3.out.cell 2 _ rfl
  have zR2 := XR_3.out.frozen 2
  have Rk_3 := hid hr2
  have lenk := hr2.len
  have bdk : kn ≤ 2000 := by rw [← lenk]; exact Nat.le_trans (prod_len len1 len3) (by omega)
  clear hb2 hr2
  have nA := XA_3.out.lt
  have nB := XB_3.out.lt
  have nR := XR_3.out.lt
  have YA_3 := hid (bx_past XA_3.out (.cells #[.bool false, .slice none 0 0, .slice ko kn kc] 82))
  have YB_3 := hid (bx_past XB_3.out (.cells #[.bool false, .slice none 0 0, .slice ko kn kc] 82))
  have YR_3 := hid (bx_past XR_3.out (.cells #[.bool false, .slice none 0 0, .slice ko kn kc] 82))
  have YX_3 := hid (bx_new w2 #[.bool false, .slice none 0 0, .slice ko kn kc] 82)
  have Q0_3 := hid (R0_3.out.alloc (.cells #[.bool false, .slice none 0 0, .slice ko kn kc] 82))
  have Q1_3 := hid (R1_3.out.alloc (.cells #[.bool false, .slice none 0 0, .slice ko kn kc] 82))
  have Q2_3 := hid (R2_3.out.alloc (.cells #[.bool false, .slice none 0 0, .slice ko kn kc] 82))
  have Q3_3 := hid (R3_3.out.alloc (.cells #[.bool false, .slice none 0 0, .slice ko kn kc] 82))
  have Qu_3 := hid (Ru_3.out.alloc (.cells #[.bool false, .slice none 0 0, .slice ko kn kc] 82))
  have Qv_3 := hid (Rv_3.out.alloc (.cells #[.bool false, .slice none 0 0, .slice ko kn kc] 82))
  have Qk_3 := hid (Rk_3.out.alloc (.cells #[.bool false, .slice none 0 0, .slice ko kn kc] 82))
  have HC_3 : Hid (Below w.heap.size w (w2.alloc (.cells #[.bool false, .slice none 0 0, .slice ko kn kc] 82))) := HB_3.out.alloc HB_3.out.size (.cells #[.bool false, .slice none 0 0, .slice ko kn kc] 82)
  go_wp2_with fail
  refine (pcmp_any uo vo un uc vn vc (p1 * q2) (p2 * q1) _ Qu_3.out Qv_3.out (by omega) (by omega)).mono ?_
  rintro e3 w3 ⟨rfl, hb3⟩
  have XA_4 := hid (YA_3.out.keep hb3)
  have XB_4 := hid (YB_3.out.keep hb3)
  have XR_4 := hid (YR_3.out.keep hb3)
  have XX_4 := hid (YX_3.out.keep hb3)
  have R0_4 := hid (Q0_3.out.below hb3)
  have R1_4 := hid (Q1_3.out.below hb3)
  have R2_4 := hid (Q2_3.out.below hb3)
  have R3_4 := hid (Q3_3.out.below hb3)
  have Ru_4 := hid (Qu_3.out.below hb3)
  have Rv_4 := hid (Qv_3.out.below hb3)
  have Rk_4 := hid (Qk_3.out.below hb3)
  have HB_4 : Hid (Below w.heap.size w w3) := HC_3.out.trans (hb3.mono HC_3.out.size)
  clear ltA cA0 cA1 cA2 ltB cB0 cB1 cB2 ltR cR0 zR0 cR1 zR1 cR2 zR2
  have ltA := XA_4.out.lt
  have cA0 := XA_4.out.cell 0 _ rfl
  have cA1 := XA_4.out.cell 1 _ rfl
  have cA2 := XA_4.out.cell 2 _ rfl
  have ltB := XB_4.out.lt
  have cB0 := XB_4.out.cell 0 _ rfl
  have cB1 := XB_4.out.cell 1 _ rfl
  have cB2 := XB_4.out.cell 2 _ rfl
  have ltR := XR_4.out.lt
  have cR0 := XR_4.out.cell 0 _ rfl
  have zR0 := XR_4.out.frozen 0
  have cR1 := XR_4.out.cell 1 _ rfl
  have zR1 := XR_4.out.frozen 1
  have cR2 := XR_4.out.cell 2 _ rfl
  have zR2 := XR_4.out.frozen 2
  have ltX := XX_4.out.lt
  have cX0 := XX_4.out.cell 0 _ rfl
  have zX0 := XX_4.out.frozen 0
  have cX1 := XX_4.out.cell 1 _ rfl
  have zX1 := XX_4.out.frozen 1
  have cX2 := XX_4.out.cell 2 _ rfl
  have zX2 := XX_4.out.frozen 2
  clear hb3
  generalize cmp3 ((p1 * q2 : Nat) : Int) ((p2 * q1 : Nat) : Int) = C
  go_wp2_with fail
  obtain ⟨V, hV⟩ : ∃ V, V = w3.setCell ⟨w2.heap.size, 0, none⟩ (.bool true) := ⟨_, rfl⟩
  rw [← hV]
  have VA := hid (XA_4.out.other ⟨w2.heap.size, 0, none⟩ (.bool true) (by show w2.heap.size ≠ _; omega))
  have VB := hid (XB_4.out.other ⟨w2.heap.size, 0, none⟩ (.bool true) (by show w2.heap.size ≠ _; omega))
  have VR := hid (XR_4.out.other ⟨w2.heap.size, 0, none⟩ (.bool true) (by show w2.heap.size ≠ _; omega))
  have VX := hid (XX_4.out.set0 (.bool true))
  have U0 := hid (R0_4.out.other w2.heap.size 0 (.bool true) XX_4.out (by decide))
  have U1 := hid (R1_4.out.other w2.heap.size 0 (.bool true) XX_4.out (by decide))
  have U2 := hid (R2_4.out.other w2.heap.size 0 (.bool true) XX_4.out (by decide))
  have U3 := hid (R3_4.out.other w2.heap.size 0 (.bool true) XX_4.out (by decide))
  have Uu := hid (Ru_4.out.other w2.heap.size 0 (.bool true) XX_4.out (by decide))
  have Uv := hid (Rv_4.out.other w2.heap.size 0 (.bool true) XX_4.out (by decide))
  have Uk := hid (Rk_4.out.other w2.heap.size 0 (.bool true) XX_4.out (by decide))
  have VBel := hid (HB_4.out.setCell (p := ⟨w2.heap.size, 0, none⟩) (by show w.heap.size ≤ w2.heap.size; omega) (.bool true))
  rw [← hV] at VBel VA VB VR VX U0 U1 U2 U3 Uu Uv Uk
  clear hV
  refine (pplus_any uo vo un uc vn vc (p1 * q2) (p2 * q1) _ Uu.out Uv.out (by omega) (by omega)).mono ?_
  rintro e4 w4 ⟨v4, rfl, ⟨so, sn, sc, rfl, hr4, _⟩, hb4⟩
  have XA_5 := hid (VA.out.keep hb4)
  have XB_5 := hid (VB.out.keep hb4)
  have XR_5 := hid (VR.out.keep hb4)
  have XX_5 := hid (VX.out.keep hb4)
  have R0_5 := hid (U0.out.below hb4)
  have R1_5 := hid (U1.out.below hb4)
  have R2_5 := hid (U2.out.below hb4)
  have R3_5 := hid (U3.out.below hb4)
  have Ru_5 := hid (Uu.out.below hb4)
  have Rv_5 := hid (Uv.out.below hb4)
  have Rk_5 := hid (Uk.out.below hb4)
  have HB_5 : Hid (Below w.heap.size w w4) := VBel.out.trans (hb4.mono VBel.out.size)
  clear ltA cA0 cA1 cA2 ltB cB0 cB1 cB2 ltR cR0 zR0 cR1 zR1 cR2 zR2 ltX cX0 zX0 cX1 zX1 cX2 zX2
  have ltA := XA_5.out.lt
  have cA0 := XA_5.out.cell 0 _ rfl
  have cA1 := XA_5.out.cell 1 _ rfl
  have cA2 := XA_5.out.cell 2 _ rfl
  have ltB := XB_5.out.lt
  have cB0 := XB_5.out.cell 0 _ rfl
  have cB1 := XB_5.out.cell 1 _ rfl
  have cB2 := XB_5.out.cell 2 _ rfl
  have ltR := XR_5.out.lt
  have cR0 := XR_5.out.cell 0 _ rfl
  have zR0 := XR_5.out.frozen 0
  have cR1 := XR_5.out.cell 1 _ rfl
  have zR1 := XR_5.out.frozen 1
  have cR2 := XR_5.out.cell 2 _ rfl
  have zR2 := XR_5.out.frozen 2
  have ltX := XX_5.out.lt
  have cX0 := XX_5.out.cell 0 _ rfl
  have zX0 := XX_5.out.frozen 0
  have cX1 := XX_5.out.cell 1 _ rfl
  have zX1 := XX_5.out.frozen 1
  have cX2 := XX_5.out.cell 2 _ rfl
  have zX2 := XX_5.out.frozen 2
  have RS := hid hr4
  clear hb4 hr4
  go_wp2
  have P1 := XX_5.out.set1 (.slice so sn sc)
  have P0 := XR_5.out.other ⟨w2.heap.size, 1, none⟩ (.slice so sn sc) (by show w2.heap.size ≠ _; omega)
  have Z := P0.put3 (.bool true) (.slice so sn sc) (.slice ko kn kc)
  have z0 := Z.cell 0 _ rfl
  have z1 := Z.cell 1 _ rfl
  have z2 := Z.cell 2 _ rfl
  unfold wput3 at z0 z1 z2
  have BB := below_put3 (HB_5.out.setCell (p := ⟨w2.heap.size, 1, none⟩) (by show w.heap.size ≤ w2.heap.size; omega) (.slice so sn sc)) (by omega : w.heap.size ≤ w.heap.size + 1 + 1) (.bool true) (.slice so sn sc) (.slice ko kn kc)
  refine bodyPost_ret (v := .agg #[.bool true, .slice so sn sc, .slice ko kn kc]) (by simp [results, Tryd.results54, go_sem, z0, z1, z2]) rfl ⟨_, true, p1 * q2 + p2 * q1, rfl, hsg.out, ?_, ⟨so, sn, sc, ko, kn, kc, rfl, ?_, ?_⟩, BB⟩
  · omega
  · exact (RS.out.other _ _ _ XX_5.out (by decide)).put3 P0 (by decide) _ _ _
  · exact (Rk_5.out.other _ _ _ XX_5.out (by decide)).put3 P0 (by decide) _ _ _

set_option maxHeartbeats 2000000 in
set_option maxRecDepth 20000 in
theorem psum_ft_ge (ao bo co eo : Option Addr) (n capa m capb p capc q capd : Nat) (p1 q1 p2 q2 : Nat) (w : World) (h1 : Row w ao n capa (limbs p1)) (h2 : Row w bo m capb (limbs q1)) (h3 : Row w co p capc (limbs p2)) (h4 : Row w eo q capd (limbs q2)) (b1 : n ≤ 1000) (b2 : m ≤ 1000) (b3 : p ≤ 1000) (b4 : q ≤ 1000) (hle : Hid (p2 * q1 ≤ p1 * q2)) :
    Calls Tryd.prog 54 #[.agg #[.bool false, .slice ao n capa, .slice bo m capb], .agg #[.bool true, .slice co p capc, .slice eo q capd]] w fun e w' => ∃ v m z, e = .returned v ∧ sg m z = sg false (p1 * q2) + sg true (p2 * q1) ∧ z ≤ p1 * q2 + p2 * q1 ∧ PNv w' v m z (q1 * q2) ∧ Below w.heap.size w w' := by
  have hsg : Hid (sg false (p1 * q2 - p2 * q1) = sg false (p1 * q2) + sg true (p2 * q1)) := (sg_less _ _ _ _ (by decide) hle.out).symm
  obtain ⟨C, hC0, hc⟩ : ∃ C : Int, 0 ≤ C ∧ Hid (cmp3 ((p1 * q2 : Nat) : Int) ((p2 * q1 : Nat) : Int) = C) := ⟨_, by have := hle.out; unfold cmp3; rw [if_neg (by omega)]; split <;> omega, rfl⟩
  obtain ⟨c1, c2, c3, c5⟩ := boxes3 w #[.bool false, .slice ao n capa, .slice bo m capb] #[.bool true, .slice co p capc, .slice eo q capd] #[.bool false, .slice none 0 0, .slice none 0 0] 82 82 82
  have R0_0 := hid (h1.below c5)
  have len0 := h1.len
  have R1_0 := hid (h2.below c5)
  have len1 := h2.len
  have R2_0 := hid (h3.below c5)
  have len2 := h3.len
  have R3_0 := hid (h4.below c5)
  have len3 := h4.len
  have XA_0 := hid c1
  have XB_0 := hid c2
  have XR_0 := hid c3
  have HB_0 := hid c5
  clear h1 h2 h3 h4 c1 c2 c3 c5
  go_enter Tryd.func54, Tryd.ntmps54
  go_wp2_with fail
  refine (ptimes_any ao eo n capa q capd p1 q2 _ R0_0.out R3_0.out (by omega) (by omega)).mono ?_
  rintro e0 w0 ⟨v0, rfl, ⟨uo, un, uc, rfl, hr0, _⟩, hb0⟩
  have XA_1 := hid (XA_0.out.keep hb0)
  have XB_1 := hid (XB_0.out.keep hb0)
  have XR_1 := hid (XR_0.out.keep hb0)
  have R0_1 := hid (R0_0.out.below hb0)
  have R1_1 := hid (R1_0.out.below hb0)
  have R2_1 := hid (R2_0.out.below hb0)
  have R3_1 := hid (R3_0.out.below hb0)
  have HB_1 : Hid (Below w.heap.size w w0) := HB_0.out.trans (hb0.mono HB_0.out.size)
  have ltA := XA_1.out.lt
  have cA0 := XA_1.out.cell 0 _ rfl
  have cA1 := XA_1.out.cell 1 _ rfl
  have cA2 := XA_1.out.cell 2 _ rfl
  have ltB := XB_1.out.lt
  have cB0 := XB_1.out.cell 0 _ rfl
  have cB1 := XB_1.out.cell 1 _ rfl
  have cB2 := XB_1.out.cell 2 _ rfl
  have ltR := XR_1.out.lt
  have cR0 := XR_1.out.cell 0 _ rfl
  have zR0 := XR_1.out.frozen 0
  have cR1 := XR_1.out.cell 1 _ rfl
  have zR1 := XR_1.out.frozen 1
  have cR2 := XR_1.out.cell 2 _ rfl
  have zR2 := XR_1.out.frozen 2
  have Ru_1 := hid hr0
  have lenu := hr0.len
  have bdu : un ≤ 2000 := by rw [← lenu]; exact Nat.le_trans (prod_len len0 len3) (by omega)
  clear hb0 hr0
  go_wp2_with fail
  refine (ptimes_any co bo p capc m capb p2 q1 _ R2_1.out R1_1.out (by omega) (by omega)).mono ?_
  rintro e1 w1 ⟨v1, rfl, ⟨vo, vn, vc, rfl, hr1, _⟩, hb1⟩
  have XA_2 := hid (XA_1.out.keep hb1)
  have XB_2 := hid (XB_1.out.keep hb1)
  have XR_2 := hid (XR_1.out.keep hb1)
  have R0_2 := hid (R0_1.out.below hb1)
  have R1_2 := hid (R1_1.out.below hb1)
  have R2_2 := hid (R2_1.out.below hb1)
  have R3_2 := hid (R3_1.out.below hb1)
  have Ru_2 := hid (Ru_1.out.below hb1)
  have HB_2 : Hid (Below w.heap.size w w1) := HB_1.out.trans (hb1.mono HB_1.out.size)
  clear ltA cA0 cA1 cA2 ltB cB0 cB1 cB2 ltR cR0 zR0 cR1 zR1 cR2 zR2
  have ltA := XA_2.out.lt
  have cA0 := XA_2.out.cell 0 _ rfl
  have cA1 := XA_2.out.cell 1 _ rfl
  have cA2 := XA_2.out.cell 2 _ rfl
  have ltB := XB_2.out.lt
  have cB0 := XB_2.out.cell 0 _ rfl
  have cB1 := XB_2.out.cell 1 _ rfl
  have cB2 := XB_2.out.cell 2 _ rfl
  have ltR := XR_2.out.lt
  have cR0 := XR_2.out.cell 0 _ rfl
  have zR0 := XR_2.out.frozen 0
  have cR1 := XR_2.out.cell 1 _ rfl
  have zR1 := XR_2.out.frozen 1
  have cR2 := XR_2.out.cell 2 _ rfl
  have zR2 := XR_2.out.frozen 2
  have Rv_2 := hid hr1
  have lenv := hr1.len
  have bdv : vn ≤ 2000 := by rw [← lenv]; exact Nat.le_trans (prod_len len2 len1) (by omega)
  clear hb1 hr1
  go_wp2_with fail
  refine (ptimes_any bo eo m capb q capd q1 q2 _ R1_2.out R3_2.out (by omega) (by omega)).mono ?_
  rintro e2 w2 ⟨v2, rfl, ⟨ko, kn, kc, rfl, hr2, _⟩, hb2⟩
  have XA_3 := hid (XA_2.out.keep hb2)
  have XB_3 := hid (XB_2.out.keep hb2)
  have XR_3 := hid (XR_2.out.keep hb2)
  have R0_3 := hid (R0_2.out.below hb2)
  have R1_3 := hid (R1_2.out.below hb2)
  have R2_3 := hid (R2_2.out.below hb2)
  have R3_3 := hid (R3_2.out.below hb2)
  have Ru_3 := hid (Ru_2.out.below hb2)
  have Rv_3 := hid (Rv_2.out.below hb2)
  have HB_3 : Hid (Below w.heap.size w w2) := HB_2.out.trans (hb2.mono HB_2.out.size)
  clear ltA cA0 cA1 cA2 ltB cB0 cB1 cB2 ltR cR0 zR0 cR1 zR1 cR2 zR2
  have ltA := XA_3.out.lt
  have cA0 := XA_3.out.cell 0 _ rfl
  have cA1 := XA_3.out.cell 1 _ rfl
  have cA2 := XA_3.out.cell 2 _ rfl
  have ltB := XB_3.out.lt
  have cB0 := XB_3.out.cell 0 _ rfl
  have cB1 := XB_3.out.cell 1 _ rfl
  have cB2 := XB_3.out.cell 2 _ rfl
  have ltR := XR_3.out.lt
  have cR0 := XR_3.out.cell 0 _ rfl
  have zR0 := XR_3.out.frozen 0
  have cR1 := XR_3.out.cell 1 _ rfl
  have zR1 := XR_3.out.frozen 1
  have cR2 := XR_3.out.cell 2 _ rfl
  have zR2 := XR_3.out.frozen 2
  have Rk_3 := hid hr2
  have lenk := hr2.len
  have bdk : kn ≤ 2000 := by rw [← lenk]; exact Nat.le_trans (prod_len len1 len3) (by omega)
  clear hb2 hr2
  have nA := XA_3.out.lt
  have nB := XB_3.out.lt
  have nR := XR_3.out.lt
  have YA_3 := hid (bx_past XA_3.out (.cells #[.bool false, .slice none 0 0, .slice ko kn kc] 82))
  have YB_3 := hid (bx_past XB_3.out (.cells #[.bool false, .slice none 0 0, .slice ko kn kc] 82))
  have YR_3 := hid (bx_past XR_3.out (.cells #[.bool false, .slice none 0 0, .slice ko kn kc] 82))
  have YX_3 := hid (bx_new w2 #[.bool false, .slice none 0 0, .slice ko kn kc] 82)
  have Q0_3 := hid (R0_3.out.alloc (.cells #[.bool false, .slice none 0 0, .slice ko kn kc] 82))
  have Q1_3 := hid (R1_3.out.alloc (.cells #[.bool false, .slice none 0 0, .slice ko kn kc] 82))
  have Q2_3 := hid (R2_3.out.alloc (.cells #[.bool false, .slice none 0 0, .slice ko kn kc] 82))
  have Q3_3 := hid (R3_3.out.alloc (.cells #[.bool false, .slice none 0 0, .slice ko kn kc] 82))
  have Qu_3 := hid (Ru_3.out.alloc (.cells #[.bool false, .slice none 0 0, .slice ko kn kc] 82))
  have Qv_3 := hid (Rv_3.out.alloc (.cells #[.bool false, .slice none 0 0, .slice ko kn kc] 82))
  have Qk_3 := hid (Rk_3.out.alloc (.cells #[.bool false, .slice none 0 0, .slice ko kn kc] 82))
  have HC_3 : Hid (Below w.heap.size w (w2.alloc (.cells #[.bool false, .slice none 0 0, .slice ko kn kc] 82))) := HB_3.out.alloc HB_3.out.size (.cells #[.bool false, .slice none 0 0, .slice ko kn kc] 82)
  go_wp2_with fail
  refine (pcmp_any uo vo un uc vn vc (p1 * q2) (p2 * q1) _ Qu_3.out Qv_3.out (by omega) (by omega)).mono ?_
  rintro e3 w3 ⟨rfl, hb3⟩
  have XA_4 := hid (YA_3.out.keep hb3)
  have XB_4 := hid (YB_3.out.keep hb3)
  have XR_4 := hid (YR_3.out.keep hb3)
  have XX_4 := hid (YX_3.out.keep hb3)
  have R0_4 := hid (Q0_3.out.below hb3)
  have R1_4 := hid (Q1_3.out.below hb3)
  have R2_4 := hid (Q2_3.out.below hb3)
  have R3_4 := hid (Q3_3.out.below hb3)
  have Ru_4 := hid (Qu_3.out.below hb3)
  have Rv_4 := hid (Qv_3.out.below hb3)
  have Rk_4 := hid (Qk_3.out.below hb3)
  have HB_4 : Hid (Below w.heap.size w w3) := HC_3.out.trans (hb3.mono HC_3.out.size)
  clear ltA cA0 cA1 cA2 ltB cB0 cB1 cB2 ltR cR0 zR0 cR1 zR1 cR2 zR2
  have ltA := XA_4.out.lt
  have cA0 := XA_4.out.cell 0 _ rfl
  have cA1 := XA_4.out.cell 1 _ rfl
  have cA2 := XA_4.out.cell 2 _ rfl
  have ltB := XB_4.out.lt
  have cB0 := XB_4.out.cell 0 _ rfl
  have cB1 := XB_4.out.cell 1 _ rfl
  have cB2 := XB_4.out.cell 2 _ rfl
  have ltR := XR_4.out.lt
  have cR0 := XR_4.out.cell 0 _ rfl
  have zR0 := XR_4.out.frozen 0
  have cR1 := XR_4.out.cell 1 _ rfl
  have zR1 := XR_4.out.frozen 1
  have cR2 := XR_4.out.cell 2 _ rfl
  have zR2 := XR_4.out.frozen 2
  have ltX := XX_4.out.lt
  have cX0 := XX_4.out.cell 0 _ rfl
  have zX0 := XX_4.out.frozen 0
  have cX1 := XX_4.out.cell 1 _ rfl
  have zX1 := XX_4.out.frozen 1
  have cX2 := XX_4.out.cell 2 _ rfl
  have zX2 := XX_4.out.frozen 2
  clear hb3
  rw [hc.out]
  go_wp2_with fail
  obtain ⟨V, hV⟩ : ∃ V, V = w3.setCell ⟨w2.heap.size, 0, none⟩ (.bool false) := ⟨_, rfl⟩
  rw [← hV]
  have VA := hid (XA_4.out.other ⟨w2.heap.size, 0, none⟩ (.bool false) (by show w2.heap.size ≠ _; omega))
  have VB := hid (XB_4.out.other ⟨w2.heap.size, 0, none⟩ (.bool false) (by show w2.heap.size ≠ _; omega))
  have VR := hid (XR_4.out.other ⟨w2.heap.size, 0, none⟩ (.bool false) (by show w2.heap.size ≠ _; omega))
  have VX := hid (XX_4.out.set0 (.bool false))
  have U0 := hid (R0_4.out.other w2.heap.size 0 (.bool false) XX_4.out (by decide))
  have U1 := hid (R1_4.out.other w2.heap.size 0 (.bool false) XX_4.out (by decide))
  have U2 := hid (R2_4.out.other w2.heap.size 0 (.bool false) XX_4.out (by decide))
  have U3 := hid (R3_4.out.other w2.heap.size 0 (.bool false) XX_4.out (by decide))
  have Uu := hid (Ru_4.out.other w2.heap.size 0 (.bool false) XX_4.out (by decide))
  have Uv := hid (Rv_4.out.other w2.heap.size 0 (.bool false) XX_4.out (by decide))
  have Uk := hid (Rk_4.out.other w2.heap.size 0 (.bool false) XX_4.out (by decide))
  have VBel := hid (HB_4.out.setCell (p := ⟨w2.heap.size, 0, none⟩) (by show w.heap.size ≤ w2.heap.size; omega) (.bool false))
  rw [← hV] at VBel VA VB VR VX U0 U1 U2 U3 Uu Uv Uk
  clear hV
  refine (pless_any uo vo un uc vn vc (p1 * q2) (p2 * q1) _ Uu.out Uv.out (by omega) (by omega) hle.out).mono ?_
  rintro e4 w4 ⟨v4, rfl, ⟨so, sn, sc, rfl, hr4, _⟩, hb4⟩
  have XA_5 := hid (VA.out.keep hb4)
  have XB_5 := hid (VB.out.keep hb4)
  have XR_5 := hid (VR.out.keep hb4)
  have XX_5 := hid (VX.out.keep hb4)
  have R0_5 := hid (U0.out.below hb4)
  have R1_5 := hid (U1.out.below hb4)
  have R2_5 := hid (U2.out.below hb4)
  have R3_5 := hid (U3.out.below hb4)
  have Ru_5 := hid (Uu.out.below hb4)
  have Rv_5 := hid (Uv.out.below hb4)
  have Rk_5 := hid (Uk.out.below hb4)
  have HB_5 : Hid (Below w.heap.size w w4) := VBel.out.trans (hb4.mono VBel.out.size)
  clear ltA cA0 cA1 cA2 ltB cB0 cB1 cB2 ltR cR0 zR0 cR1 zR1 cR2 zR2 ltX cX0 zX0 cX1 zX1 cX2 zX2
  have ltA := XA_5.out.lt
  have cA0 := XA_5.out.cell 0 _ rfl
  have cA1 := XA_5.out.cell 1 _ rfl
  have cA2 := XA_5.out.cell 2 _ rfl
  have ltB := XB_5.out.lt
  have cB0 := XB_5.out.cell 0 _ rfl
  have cB1 := XB_5.out.cell 1 _ rfl
  have cB2 := XB_5.out.cell 2 _ rfl
  have ltR := XR_5.out.lt
  have cR0 := XR_5.out.cell 0 _ rfl
  have zR0 := XR_5.out.frozen 0
  have cR1 := XR_5.out.cell 1 _ rfl
  have zR1 := XR_5.out.frozen 1
  have cR2 := XR_5.out.cell 2 _ rfl
  have zR2 := XR_5.out.frozen 2
  have ltX := XX_5.out.lt
  have cX0 := XX_5.out.cell 0 _ rfl
  have zX0 := XX_5.out.frozen 0
  have cX1 := XX_5.out.cell 1 _ rfl
  have zX1 := XX_5.out.frozen 1
  have cX2 := XX_5.out.cell 2 _ rfl
  have zX2 := XX_5.out.frozen 2
  have RS := hid hr4
  clear hb4 hr4
  go_wp2
  have P1 := XX_5.out.set1 (.slice so sn sc)
  have P0 := XR_5.out.other ⟨w2.heap.size, 1, none⟩ (.slice so sn sc) (by show w2.heap.size ≠ _; omega)
  have Z := P0.put3 (.bool false) (.slice so sn sc) (.slice ko kn kc)
  have z0 := Z.cell 0 _ rfl
  have z1 := Z.cell 1 _ rfl
  have z2 := Z.cell 2 _ rfl
  unfold wput3 at z0 z1 z2
  have BB := below_put3 (HB_5.out.setCell (p := ⟨w2.heap.size, 1, none⟩) (by show w.heap.size ≤ w2.heap.size; omega) (.slice so sn sc)) (by omega : w.heap.size ≤ w.heap.size + 1 + 1) (.bool false) (.slice so sn sc) (.slice ko kn kc)
  refine bodyPost_ret (v := .agg #[.bool false, .slice so sn sc, .slice ko kn kc]) (by simp [results, Tryd.results54, go_sem, z0, z1, z2]) rfl ⟨_, false, p1 * q2 - p2 * q1, rfl, hsg.out, ?_, ⟨so, sn, sc, ko, kn, kc, rfl, ?_, ?_⟩, BB⟩
  · omega
  · exact (RS.out.other _ _ _ XX_5.out (by decide)).put3 P0 (by decide) _ _ _
  · exact (Rk_5.out.other _ _ _ XX_5.out (by decide)).put3 P0 (by decide) _ _ _

set_option maxHeartbeats 2000000 in
set_option maxRecDepth 20000 in
theorem psum_ft_lt (ao bo co eo : Option Addr) (n capa m capb p capc q capd : Nat) (p1 q1 p2 q2 : Nat) (w : World) (h1 : Row w ao n capa (limbs p1)) (h2 : Row w bo m capb (limbs q1)) (h3 : Row w co p capc (limbs p2)) (h4 : Row w eo q capd (limbs q2)) (b1 : n ≤ 1000) (b2 : m ≤ 1000) (b3 : p ≤ 1000) (b4 : q ≤ 1000) (hlt : Hid (p1 * q2 < p2 * q1)) (hle : Hid (p1 * q2 ≤ p2 * q1)) :
    Calls Tryd.prog 54 #[.agg #[.bool false, .slice ao n capa, .slice bo m capb], .agg #[.bool true, .slice co p capc, .slice eo q capd]] w fun e w' => ∃ v m z, e = .returned v ∧ sg m z = sg false (p1 * q2) + sg true (p2 * q1) ∧ z ≤ p1 * q2 + p2 * q1 ∧ PNv w' v m z (q1 * q2) ∧ Below w.heap.size w w' := by
  have hsg : Hid (sg true (p2 * q1 - p1 * q2) = sg false (p1 * q2) + sg true (p2 * q1)) := (sg_more _ _ _ _ (by decide) hle.out).symm
  have hc : Hid (cmp3 ((p1 * q2 : Nat) : Int) ((p2 * q1 : Nat) : Int) = -1) := by have := hlt.out; show _ = _; unfold cmp3; rw [if_pos (by omega)]
  obtain ⟨c1, c2, c3, c5⟩ := boxes3 w #[.bool false, .slice ao n capa, .slice bo m capb] #[.bool true, .slice co p capc, .slice eo q capd] #[.bool false, .slice none 0 0, .slice none 0 0] 82 82 82
  have R0_0 := hid (h1.below c5)
  have len0 := h1.len
  have R1_0 := hid (h2.below c5)
  have len1 := h2.len
  have R2_0 := hid (h3.below c5)
  have len2 := h3.len
  have R3_0 := hid (h4.below c5)
  have len3 := h4.len
  have XA_0 := hid c1
  have XB_0 := hid c2
  have XR_0 := hid c3
  have HB_0 := hid c5
  clear h1 h2 h3 h4 c1 c2 c3 c5
  go_enter Tryd.func54, Tryd.ntmps54
  go_wp2_with fail
  refine (ptimes_any ao eo n capa q capd p1 q2 _ R0_0.out R3_0.out (by omega) (by omega)).mono ?_
  rintro e0 w0 ⟨v0, rfl, ⟨uo, un, uc, rfl, hr0, _⟩, hb0⟩
  have XA_1 := hid (XA_0.out.keep hb0)
  have XB_1 := hid (XB_0.out.keep hb0)
  have XR_1 := hid (XR_0.out.keep hb0)
  have R0_1 := hid (R0_0.out.below hb0)
  have R1_1 := hid (R1_0.out.below hb0)
  have R2_1 := hid (R2_0.out.below hb0)
  have R3_1 := hid (R3_0.out.below hb0)
  have HB_1 : Hid (Below w.heap.size w w0) := HB_0.out.trans (hb0.mono HB_0.out.size)
  have ltA := XA_1.out.lt
  have cA0 := XA_1.out.cell 0 _ rfl
  have cA1 := XA_1.out.cell 1 _ rfl
  have cA2 := XA_1.out.cell 2 _ rfl
  have ltB := XB_1.out.lt
  have cB0 := XB_1.out.cell 0 _ rfl
  have cB1 := XB_1.out.cell 1 _ rfl
  have cB2 := XB_1.out.cell 2 _ rfl
  have ltR := XR_1.out.lt
  have cR0 := XR_1.out.cell 0 _ rfl
  have zR0 := XR_1.out.frozen 0
  have cR1 := XR_1.out.cell 1 _ rfl
  have zR1 := XR_1.out.frozen 1
  have cR2 := XR_1.out.cell 2 _ rfl
  have zR2 := XR_1.out.frozen 2
  have Ru_1 := hid hr0
  have lenu := hr0.len
  have bdu : un ≤ 2000 := by rw [← lenu]; exact Nat.le_trans (prod_len len0 len3) (by omega)
  clear hb0 hr0
  go_wp2_with fail
  refine (ptimes_any co bo p capc m capb p2 q1 _ R2_1.out R1_1.out (by omega) (by omega)).mono ?_
  rintro e1 w1 ⟨v1, rfl, ⟨vo, vn, vc, rfl, hr1, _⟩, hb1⟩
  have XA_2 := hid (XA_1.out.keep hb1)
  have XB_2 := hid (XB_1.out.keep hb1)
  have XR_2 := hid (XR_1.out.keep hb1)
  have R0_2 := hid (R0_1.out.below hb1)
  have R1_2 := hid (R1_1.out.below hb1)
  have R2_2 := hid (R2_1.out.below hb1)
  have R3_2 := hid (R3_1.out.below hb1)
  have Ru_2 := hid (Ru_1.out.below hb1)
  have HB_2 : Hid (Below w.heap.size w w1) := HB_1.out.trans (hb1.mono HB_1.out.size)
  clear ltA cA0 cA1 cA2 ltB cB0 cB1 cB2 ltR cR0 zR0 cR1 zR1 cR2 zR2
  have ltA := XA_2.out.lt
  have cA0 := XA_2.out.cell 0 _ rfl
  have cA1 := XA_2.out.cell 1 _ rfl
  have cA2 := XA_2.out.cell 2 _ rfl
  have ltB := XB_2.out.lt
  have cB0 := XB_2.out.cell 0 _ rfl
  have cB1 := XB_2.out.cell 1 _ rfl
  have cB2 := XB_2.out.cell 2 _ rfl
  have ltR := XR_2.out.lt
  have cR0 := XR_2.out.cell 0 _ rfl
  have zR0 := XR_2.out.frozen 0
  have cR1 := XR_2.out.cell 1 _ rfl
  have zR1 := XR_2.out.frozen 1
  have cR2 := XR_2.out.cell 2 _ rfl
  have zR2 := XR_2.out.frozen 2
  have Rv_2 := hid hr1
  have lenv := hr1.len
  have bdv : vn ≤ 2000 := by rw [← lenv]; exact Nat.le_trans (prod_len len2 len1) (by omega)
  clear hb1 hr1
  go_wp2_with fail
  refine (ptimes_any bo eo m capb q capd q1 q2 _ R1_2.out R3_2.out (by omega) (by omega)).mono ?_
  rintro e2 w2 ⟨v2, rfl, ⟨ko, kn, kc, rfl, hr2, _⟩, hb2⟩
  have XA_3 := hid (XA_2.out.keep hb2)
  have XB_3 := hid (XB_2.out.keep hb2)
  have XR_3 := hid (XR_2.out.keep hb2)
  have R0_3 := hid (R0_2.out.below hb2)
  have R1_3 := hid (R1_2.out.below hb2)
  have R2_3 := hid (R2_2.out.below hb2)
  have R3_3 := hid (R3_2.out.below hb2)
  have Ru_3 := hid (Ru_2.out.below hb2)
  have Rv_3 := hid (Rv_2.out.below hb2)
  have HB_3 : Hid (Below w.heap.size w w2) := HB_2.out.trans (hb2.mono HB_2.out.size)
  clear ltA cA0 cA1 cA2 ltB cB0 cB1 cB2 ltR cR0 zR0 cR1 zR1 cR2 zR2
  have ltA := XA_3.out.lt
  have cA0 := XA_3.out.cell 0 _ rfl
  have cA1 := XA_3.out.cell 1 _ rfl
  have cA2 := XA_3.out.cell 2 _ rfl
  have ltB := XB_3.out.lt
  have cB0 := XB_3.out.cell 0 _ rfl
  have cB1 := XB_3.out.cell 1 _ rfl
  have cB2 := XB_3.out.cell 2 _ rfl
  have ltR := XR_3.out.lt
  have cR0 := XR_3.out.cell 0 _ rfl
  have zR0 := XR_3.out.frozen 0
  have cR1 := XR_3.out.cell 1 _ rfl
  have zR1 := XR_3.out.frozen 1
  have cR2 := XR_3.out.cell 2 _ rfl
  have zR2 := XR_3.out.frozen 2
  have Rk_3 := hid hr2
  have lenk := hr2.len
  have bdk : kn ≤ 2000 := by rw [← lenk]; exact Nat.le_trans (prod_len len1 len3) (by omega)
  clear hb2 hr2
  have nA := XA_3.out.lt
  have nB := XB_3.out.lt
  have nR := XR_3.out.lt
  have YA_3 := hid (bx_past XA_3.out (.cells #[.bool false, .slice none 0 0, .slice ko kn kc] 82))
  have YB_3 := hid (bx_past XB_3.out (.cells #[.bool false, .slice none 0 0, .slice ko kn kc] 82))
  have YR_3 := hid (bx_past XR_3.out (.cells #[.bool false, .slice none 0 0, .slice ko kn kc] 82))
  have YX_3 := hid (bx_new w2 #[.bool false, .slice none 0 0, .slice ko kn kc] 82)
  have Q0_3 := hid (R0_3.out.alloc (.cells #[.bool false, .slice none 0 0, .slice ko kn kc] 82))
  have Q1_3 := hid (R1_3.out.alloc (.cells #[.bool false, .slice none 0 0, .slice ko kn kc] 82))
  have Q2_3 := hid (R2_3.out.alloc (.cells #[.bool false, .slice none 0 0, .slice ko kn kc] 82))
  have Q3_3 := hid (R3_3.out.alloc (.cells #[.bool false, .slice none 0 0, .slice ko kn kc] 82))
  have Qu_3 := hid (Ru_3.out.alloc (.cells #[.bool false, .slice none 0 0, .slice ko kn kc] 82))
  have Qv_3 := hid (Rv_3.out.alloc (.cells #[.bool false, .slice none 0 0, .slice ko kn kc] 82))
  have Qk_3 := hid (Rk_3.out.alloc (.cells #[.bool false, .slice none 0 0, .slice ko kn kc] 82))
  have HC_3 : Hid (Below w.heap.size w (w2.alloc (.cells #[.bool false, .slice none 0 0, .slice ko kn kc] 82))) := HB_3.out.alloc HB_3.out.size (.cells #[.bool false, .slice none 0 0, .slice ko kn kc] 82)
  go_wp2_with fail
  refine (pcmp_any uo vo un uc vn vc (p1 * q2) (p2 * q1) _ Qu_3.out Qv_3.out (by omega) (by omega)).mono ?_
  rintro e3 w3 ⟨rfl, hb3⟩
  have XA_4 := hid (YA_3.out.keep hb3)
  have XB_4 := hid (YB_3.out.keep hb3)
  have XR_4 := hid (YR_3.out.keep hb3)
  have XX_4 := hid (YX_3.out.keep hb3)
  have R0_4 := hid (Q0_3.out.below hb3)
  have R1_4 := hid (Q1_3.out.below hb3)
  have R2_4 := hid (Q2_3.out.below hb3)
  have R3_4 := hid (Q3_3.out.below hb3)
  have Ru_4 := hid (Qu_3.out.below hb3)
  have Rv_4 := hid (Qv_3.out.below hb3)
  have Rk_4 := hid (Qk_3.out.below hb3)
  have HB_4 : Hid (Below w.heap.size w w3) := HC_3.out.trans (hb3.mono HC_3.out.size)
  clear ltA cA0 cA1 cA2 ltB cB0 cB1 cB2 ltR cR0 zR0 cR1 zR1 cR2 zR2
  have ltA := XA_4.out.lt
  have cA0 := XA_4.out.cell 0 _ rfl
  have cA1 := XA_4.out.cell 1 _ rfl
  have cA2 := XA_4.out.cell 2 _ rfl
  have ltB := XB_4.out.lt
  have cB0 := XB_4.out.cell 0 _ rfl
  have cB1 := XB_4.out.cell 1 _ rfl
  have cB2 := XB_4.out.cell 2 _ rfl
  have ltR := XR_4.out.lt
  have cR0 := XR_4.out.cell 0 _ rfl
  have zR0 := XR_4.out.frozen 0
  have cR1 := XR_4.out.cell 1 _ rfl
  have zR1 := XR_4.out.frozen 1
  have cR2 := XR_4.out.cell 2 _ rfl
  have zR2 := XR_4.out.frozen 2
  have ltX := XX_4.out.lt
  have cX0 := XX_4.out.cell 0 _ rfl
  have zX0 := XX_4.out.frozen 0
  have cX1 := XX_4.out.cell 1 _ rfl
  have zX1 := XX_4.out.frozen 1
  have cX2 := XX_4.out.cell 2 _ rfl
  have zX2 := XX_4.out.frozen 2
  clear hb3
  rw [hc.out]
  go_wp2_with fail
  obtain ⟨V, hV⟩ : ∃ V, V = w3.setCell ⟨w2.heap.size, 0, none⟩ (.bool true) := ⟨_, rfl⟩
  rw [← hV]
  have VA := hid (XA_4.out.other ⟨w2.heap.size, 0, none⟩ (.bool true) (by show w2.heap.size ≠ _; omega))
  have VB := hid (XB_4.out.other ⟨w2.heap.size, 0, none⟩ (.bool true) (by show w2.heap.size ≠ _; omega))
  have VR := hid (XR_4.out.other ⟨w2.heap.size, 0, none⟩ (.bool true) (by show w2.heap.size ≠ _; omega))
  have VX := hid (XX_4.out.set0 (.bool true))
  have U0 := hid (R0_4.out.other w2.heap.size 0 (.bool true) XX_4.out (by decide))
  have U1 := hid (R1_4.out.other w2.heap.size 0 (.bool true) XX_4.out (by decide))
  have U2 := hid (R2_4.out.other w2.heap.size 0 (.bool true) XX_4.out (by decide))
  have U3 := hid (R3_4.out.other w2.heap.size 0 (.bool true) XX_4.out (by decide))
  have Uu := hid (Ru_4.out.other w2.heap.size 0 (.bool true) XX_4.out (by decide))
  have Uv := hid (Rv_4.out.other w2.heap.size 0 (.bool true) XX_4.out (by decide))
  have Uk := hid (Rk_4.out.other w2.heap.size 0 (.bool true) XX_4.out (by decide))
  have VBel := hid (HB_4.out.setCell (p := ⟨w2.heap.size, 0, none⟩) (by show w.heap.size ≤ w2.heap.size; omega) (.bool true))
  rw [← hV] at VBel VA VB VR VX U0 U1 U2 U3 Uu Uv Uk
  clear hV
  refine (pless_any vo uo vn vc un uc (p2 * q1) (p1 * q2) _ Uv.out Uu.out (by omega) (by omega) hle.out).mono ?_
  rintro e4 w4 ⟨v4, rfl, ⟨so, sn, sc, rfl, hr4, _⟩, hb4⟩
  have XA_5 := hid (VA.out.keep hb4)
  have XB_5 := hid (VB.out.keep hb4)
  have XR_5 := hid (VR.out.keep hb4)
  have XX_5 := hid (VX.out.keep hb4)
  have R0_5 := hid (U0.out.below hb4)
  have R1_5 := hid (U1.out.below hb4)
  have R2_5 := hid (U2.out.below hb4)
  have R3_5 := hid (U3.out.below hb4)
  have Ru_5 := hid (Uu.out.below hb4)
  have Rv_5 := hid (Uv.out.below hb4)
  have Rk_5 := hid (Uk.out.below hb4)
  have HB_5 : Hid (Below w.heap.size w w4) := VBel.out.trans (hb4.mono VBel.out.size)
  clear ltA cA0 cA1 cA2 ltB cB0 cB1 cB2 ltR cR0 zR0 cR1 zR1 cR2 zR2 ltX cX0 zX0 cX1 zX1 cX2 zX2
  have ltA := XA_5.out.lt
  have cA0 := XA_5.out.cell 0 _ rfl
  have cA1 := XA_5.out.cell 1 _ rfl
  have cA2 := XA_5.out.cell 2 _ rfl
  have ltB := XB_5.out.lt
  have cB0 := XB_5.out.cell 0 _ rfl
  have cB1 := XB_5.out.cell 1 _ rfl
  have cB2 := XB_5.out.cell 2 _ rfl
  have ltR := XR_5.out.lt
  have cR0 := XR_5.out.cell 0 _ rfl
  have zR0 := XR_5.out.frozen 0
  have cR1 := XR_5.out.cell 1 _ rfl
  have zR1 := XR_5.out.frozen 1
  have cR2 := XR_5.out.cell 2 _ rfl
  have zR2 := XR_5.out.frozen 2
  have ltX := XX_5.out.lt
  have cX0 := XX_5.out.cell 0 _ rfl
  have zX0 := XX_5.out.frozen 0
  have cX1 := XX_5.out.cell 1 _ rfl
  have zX1 := XX_5.out.frozen 1
  have cX2 := XX_5.out.cell 2 _ rfl
  have zX2 := XX_5.out.frozen 2
  have RS := hid hr4
  clear hb4 hr4
  go_wp2
  have P1 := XX_5.out.set1 (.slice so sn sc)
  have P0 := XR_5.out.other ⟨w2.heap.size, 1, none⟩ (.slice so sn sc) (by show w2.heap.size ≠ _; omega)
  have Z := P0.put3 (.bool true) (.slice so sn sc) (.slice ko kn kc)
  have z0 := Z.cell 0 _ rfl
  have z1 := Z.cell 1 _ rfl
  have z2 := Z.cell 2 _ rfl
  unfold wput3 at z0 z1 z2
  have BB := below_put3 (HB_5.out.setCell (p := ⟨w2.heap.size, 1, none⟩) (by show w.heap.size ≤ w2.heap.size; omega) (.slice so sn sc)) (by omega : w.heap.size ≤ w.heap.size + 1 + 1) (.bool true) (.slice so sn sc) (.slice ko kn kc)
  refine bodyPost_ret (v := .agg #[.bool true, .slice so sn sc, .slice ko kn kc]) (by simp [results, Tryd.results54, go_sem, z0, z1, z2]) rfl ⟨_, true, p2 * q1 - p1 * q2, rfl, hsg.out, ?_, ⟨so, sn, sc, ko, kn, kc, rfl, ?_, ?_⟩, BB⟩
  · omega
  · exact (RS.out.other _ _ _ XX_5.out (by decide)).put3 P0 (by decide) _ _ _
  · exact (Rk_5.out.other _ _ _ XX_5.out (by decide)).put3 P0 (by decide) _ _ _

set_option maxHeartbeats 2000000 in
set_option maxRecDepth 20000 in
theorem psum_tf_ge (ao bo co eo : Option Addr) (n capa m capb p capc q capd : Nat) (p1 q1 p2 q2 : Nat) (w : World) (h1 : Row w ao n capa (limbs p1)) (h2 : Row w bo m capb (limbs q1)) (h3 : Row w co p capc (limbs p2)) (h4 : Row w eo q capd (limbs q2)) (b1 : n ≤ 1000) (b2 : m ≤ 1000) (b3 : p ≤ 1000) (b4 : q ≤ 1000) (hle : Hid (p2 * q1 ≤ p1 * q2)) :
    Calls Tryd.prog 54 #[.agg #[.bool true, .slice ao n capa, .slice bo m capb], .agg #[.bool false, .slice co p capc, .slice eo q capd]] w fun e w' => ∃ v m z, e = .returned v ∧ sg m z = sg true (p1 * q2) + sg false (p2 * q1) ∧ z ≤ p1 * q2 + p2 * q1 ∧ PNv w' v m z (q1 * q2) ∧ Below w.heap.size w w' := by
  have hsg : Hid (sg true (p1 * q2 - p2 * q1) = sg true (p1 * q2) + sg false (p2 * q1)) := (sg_less _ _ _ _ (by decide) hle.out).symm
  obtain ⟨C, hC0, hc⟩ : ∃ C : Int, 0 ≤ C ∧ Hid (cmp3 ((p1 * q2 : Nat) : Int) ((p2 * q1 : Nat) : Int) = C) := ⟨_, by have := hle.out; unfold cmp3; rw [if_neg (by omega)]; split <;> omega, rfl⟩
  obtain ⟨c1, c2, c3, c5⟩ := boxes3 w #[.bool true, .slice ao n capa, .slice bo m capb] #[.bool false, .slice co p capc, .slice eo q capd] #[.bool false, .slice none 0 0, .slice none 0 0] 82 82 82
  have R0_0 := hid (h1.below c5)
  have len0 := h1.len
  have R1_0 := hid (h2.below c5)
  have len1 := h2.len
  have R2_0 := hid (h3.below c5)
  have len2 := h3.len
  have R3_0 := hid (h4.below c5)
  have len3 := h4.len
  have XA_0 := hid c1
  have XB_0 := hid c2
  have XR_0 := hid c3
  have HB_0 := hid c5
  clear h1 h2 h3 h4 c1 c2 c3 c5
  go_enter Tryd.func54, Tryd.ntmps54
  go_wp2_with fail
  refine (ptimes_any ao eo n capa q capd p1 q2 _ R0_0.out R3_0.out (by omega) (by omega)).mono ?_
  rintro e0 w0 ⟨v0, rfl, ⟨uo, un, uc, rfl, hr0, _⟩, hb0⟩
  have XA_1 := hid (XA_0.out.keep hb0)
  have XB_1 := hid (XB_0.out.keep hb0)
  have XR_1 := hid (XR_0.out.keep hb0)
  have R0_1 := hid (R0_0.out.below hb0)
  have R1_1 := hid (R1_0.out.below hb0)
  have R2_1 := hid (R2_0.out.below hb0)
  have R3_1 := hid (R3_0.out.below hb0)
  have HB_1 : Hid (Below w.heap.size w w0) := HB_0.out.trans (hb0.mono HB_0.out.size)
  have ltA := XA_1.out.lt
  have cA0 := XA_1.out.cell 0 _ rfl
  have cA1 := XA_1.out.cell 1 _ rfl
  have cA2 := XA_1.out.cell 2 _ rfl
  have ltB := XB_1.out.lt
  have cB0 := XB_1.out.cell 0 _ rfl
  have cB1 := XB_1.out.cell 1 _ rfl
  have cB2 := XB_1.out.cell 2 _ rfl
  have ltR := XR_1.out.lt
  have cR0 := XR_1.out.cell 0 _ rfl
  have zR0 := XR_1.out.frozen 0
  have cR1 := XR_1.out.cell 1 _ rfl
  have zR1 := XR_1.out.frozen 1
  have cR2 := XR_1.out.cell 2 _ rfl
  have zR2 := XR_1.out.frozen 2
  have Ru_1 := hid hr0
  have lenu := hr0.len
  have bdu : un ≤ 2000 := by rw [← lenu]; exact Nat.le_trans (prod_len len0 len3) (by omega)
  clear hb0 hr0
  go_wp2_with fail
  refine (ptimes_any co bo p capc m capb p2 q1 _ R2_1.out R1_1.out (by omega) (by omega)).mono ?_
  rintro e1 w1 ⟨v1, rfl, ⟨vo, vn, vc, rfl, hr1, _⟩, hb1⟩
  have XA_2 := hid (XA_1.out.keep hb1)
  have XB_2 := hid (XB_1.out.keep hb1)
  have XR_2 := hid (XR_1.out.keep hb1)
  have R0_2 := hid (R0_1.out.below hb1)
  have R1_2 := hid (R1_1.out.below hb1)
  have R2_2 := hid (R2_1.out.below hb1)
  have R3_2 := hid (R3_1.out.below hb1)
  have Ru_2 := hid (Ru_1.out.below hb1)
  have HB_2 : Hid (Below w.heap.size w w1) := HB_1.out.trans (hb1.mono HB_1.out.size)
  clear ltA cA0 cA1 cA2 ltB cB0 cB1 cB2 ltR cR0 zR0 cR1 zR1 cR2 zR2
  have ltA := XA_2.out.lt
  have cA0 := XA_2.out.cell 0 _ rfl
  have cA1 := XA_2.out.cell 1 _ rfl
  have cA2 := XA_2.out.cell 2 _ rfl
  have ltB := XB_2.out.lt
  have cB0 := XB_2.out.cell 0 _ rfl
  have cB1 := XB_2.out.cell 1 _ rfl
  have cB2 := XB_2.out.cell 2 _ rfl
  have ltR := XR_2.out.lt
  have cR0 := XR_2.out.cell 0 _ rfl
  have zR0 := XR_2.out.frozen 0
  have cR1 := XR_2.out.cell 1 _ rfl
  have zR1 := XR_2.out.frozen 1
  have cR2 := XR_2.out.cell 2 _ rfl
  have zR2 := XR_2.out.frozen 2
  have Rv_2 := hid hr1
  have lenv := hr1.len
  have bdv : vn ≤ 2000 := by rw [← lenv]; exact Nat.le_trans (prod_len len2 len1) (by omega)
  clear hb1 hr1
  go_wp2_with fail
  refine (ptimes_any bo eo m capb q capd q1 q2 _ R1_2.out R3_2.out (by omega) (by omega)).mono ?_
  rintro e2 w2 ⟨v2, rfl, ⟨ko, kn, kc, rfl, hr2, _⟩, hb2⟩
  have XA_3 := hid (XA_2.out.keep hb2)
  have XB_3 := hid (XB_2.out.keep hb2)
  have XR_3 := hid (XR_2.out.keep hb2)
  have R0_3 := hid (R0_2.out.below hb2)
  have R1_3 := hid (R1_2.out.below hb2)
  have R2_3 := hid (R2_2.out.below hb2)
  have R3_3 := hid (R3_2.out.below hb2)
  have Ru_3 := hid (Ru_2.out.below hb2)
  have Rv_3 := hid (Rv_2.out.below hb2)
  have HB_3 : Hid (Below w.heap.size w w2) := HB_2.out.trans (hb2.mono HB_2.out.size)
  clear ltA cA0 cA1 cA2 ltB cB0 cB1 cB2 ltR cR0 zR0 cR1 zR1 cR2 zR2
  have ltA := XA_3.out.lt
  have cA0 := XA_3.out.cell 0 _ rfl
  have cA1 := XA_3.out.cell 1 _ rfl
  have cA2 := XA_3.out.cell 2 _ rfl
  have ltB := XB_3.out.lt
  have cB0 := XB_3.out.cell 0 _ rfl
  have cB1 := XB_3.out.cell 1 _ rfl
  have cB2 := XB_3.out.cell 2 _ rfl
  have ltR := XR_3.out.lt
  have cR0 := XR_3.out.cell 0 _ rfl
  have zR0 := XR_3.out.frozen 0
  have cR1 := XR_3.out.cell 1 _ rfl
  have zR1 := XR_3.out.frozen 1
  have cR2 := XR_3.out.cell 2 _ rfl
  have zR2 := XR_3.out.frozen 2
  have Rk_3 := hid hr2
  have lenk := hr2.len
  have bdk : kn ≤ 2000 := by rw [← lenk]; exact Nat.le_trans (prod_len len1 len3) (by omega)
  clear hb2 hr2
  have nA := XA_3.out.lt
  have nB := XB_3.out.lt
  have nR := XR_3.out.lt
  have YA_3 := hid (bx_past XA_3.out (.cells #[.bool false, .slice none 0 0, .slice ko kn kc] 82))
  have YB_3 := hid (bx_past XB_3.out (.cells #[.bool false, .slice none 0 0, .slice ko kn kc] 82))
  have YR_3 := hid (bx_past XR_3.out (.cells #[.bool false, .slice none 0 0, .slice ko kn kc] 82))
  have YX_3 := hid (bx_new w2 #[.bool false, .slice none 0 0, .slice ko kn kc] 82)
  have Q0_3 := hid (R0_3.out.alloc (.cells #[.bool false, .slice none 0 0, .slice ko kn kc] 82))
  have Q1_3 := hid (R1_3.out.alloc (.cells #[.bool false, .slice none 0 0, .slice ko kn kc] 82))
  have Q2_3 := hid (R2_3.out.alloc (.cells #[.bool false, .slice none 0 0, .slice ko kn kc] 82))
  have Q3_3 := hid (R3_3.out.alloc (.cells #[.bool false, .slice none 0 0, .slice ko kn kc] 82))
  have Qu_3 := hid (Ru_3.out.alloc (.cells #[.bool false, .slice none 0 0, .slice ko kn kc] 82))
  have Qv_3 := hid (Rv_3.out.alloc (.cells #[.bool false, .slice none 0 0, .slice ko kn kc] 82))
  have Qk_3 := hid (Rk_3.out.alloc (.cells #[.bool false, .slice none 0 0, .slice ko kn kc] 82))
  have HC_3 : Hid (Below w.heap.size w (w2.alloc (.cells #[.bool false, .slice none 0 0, .slice ko kn kc] 82))) := HB_3.out.alloc HB_3.out.size (.cells #[.bool false, .slice none 0 0, .slice ko kn kc] 82)
  go_wp2_with fail
  refine (pcmp_any uo vo un uc vn vc (p1 * q2) (p2 * q1) _ Qu_3.out Qv_3.out (by omega) (by omega)).mono ?_
  rintro e3 w3 ⟨rfl, hb3⟩
  have XA_4 := hid (YA_3.out.keep hb3)
  have XB_4 := hid (YB_3.out.keep hb3)
  have XR_4 := hid (YR_3.out.keep hb3)
  have XX_4 := hid (YX_3.out.keep hb3)
  have R0_4 := hid (Q0_3.out.below hb3)
  have R1_4 := hid (Q1_3.out.below hb3)
  have R2_4 := hid (Q2_3.out.below hb3)
  have R3_4 := hid (Q3_3.out.below hb3)
  have Ru_4 := hid (Qu_3.out.below hb3)
  have Rv_4 := hid (Qv_3.out.below hb3)
  have Rk_4 := hid (Qk_3.out.below hb3)
  have HB_4 : Hid (Below w.heap.size w w3) := HC_3.out.trans (hb3.mono HC_3.out.size)
  clear ltA cA0 cA1 cA2 ltB cB0 cB1 cB2 ltR cR0 zR0 cR1 zR1 cR2 zR2
  have ltA := XA_4.out.lt
  have cA0 := XA_4.out.cell 0 _ rfl
  have cA1 := XA_4.out.cell 1 _ rfl
  have cA2 := XA_4.out.cell 2 _ rfl
  have ltB := XB_4.out.lt
  have cB0 := XB_4.out.cell 0 _ rfl
  have cB1 := XB_4.out.cell 1 _ rfl
  have cB2 := XB_4.out.cell 2 _ rfl
  have ltR := XR_4.out.lt
  have cR0 := XR_4.out.cell 0 _ rfl
  have zR0 := XR_4.out.frozen 0
  have cR1 := XR_4.out.cell 1 _ rfl
  have zR1 := XR_4.out.frozen 1
  have cR2 := XR_4.out.cell 2 _ rfl
  have zR2 := XR_4.out.frozen 2
  have ltX := XX_4.out.lt
  have cX0 := XX_4.out.cell 0 _ rfl
  have zX0 := XX_4.out.frozen 0
  have cX1 := XX_4.out.cell 1 _ rfl
  have zX1 := XX_4.out.frozen 1
  have cX2 := XX_4.out.cell 2 _ rfl
  have zX2 := XX_4.out.frozen 2
  clear hb3
  rw [hc.out]
  go_wp2_with fail
  obtain ⟨V, hV⟩ : ∃ V, V = w3.setCell ⟨w2.heap.size, 0, none⟩ (.bool true) := ⟨_, rfl⟩
  rw [← hV]
  have VA := hid (XA_4.out.other ⟨w2.heap.size, 0, none⟩ (.bool true) (by show w2.heap.size ≠ _; omega))
  have VB := hid (XB_4.out.other ⟨w2.heap.size, 0, none⟩ (.bool true) (by show w2.heap.size ≠ _; omega))
  have VR := hid (XR_4.out.other ⟨w2.heap.size, 0, none⟩ (.bool true) (by show w2.heap.size ≠ _; omega))
  have VX := hid (XX_4.out.set0 (.bool true))
  have U0 := hid (R0_4.out.other w2.heap.size 0 (.bool true) XX_4.out (by decide))
  have U1 := hid (R1_4.out.other w2.heap.size 0 (.bool true) XX_4.out (by decide))
  have U2 := hid (R2_4.out.other w2.heap.size 0 (.bool true) XX_4.out (by decide))
  have U3 := hid (R3_4.out.other w2.heap.size 0 (.bool true) XX_4.out (by decide))
  have Uu := hid (Ru_4.out.other w2.heap.size 0 (.bool true) XX_4.out (by decide))
  have Uv := hid (Rv_4.out.other w2.heap.size 0 (.bool true) XX_4.out (by decide))
  have Uk := hid (Rk_4.out.other w2.heap.size 0 (.bool true) XX_4.out (by decide))
  have VBel := hid (HB_4.out.setCell (p := ⟨w2.heap.size, 0, none⟩) (by show w.heap.size ≤ w2.heap.size; omega) (.bool true))
  rw [← hV] at VBel VA VB VR VX U0 U1 U2 U3 Uu Uv Uk
  clear hV
  refine (pless_any uo vo un uc vn vc (p1 * q2) (p2 * q1) _ Uu.out Uv.out (by omega) (by omega) hle.out).mono ?_
  rintro e4 w4 ⟨v4, rfl, ⟨so, sn, sc, rfl, hr4, _⟩, hb4⟩
  have XA_5 := hid (VA.out.keep hb4)
  have XB_5 := hid (VB.out.keep hb4)
  have XR_5 := hid (VR.out.keep hb4)
  have XX_5 := hid (VX.out.keep hb4)
  have R0_5 := hid (U0.out.below hb4)
  have R1_5 := hid (U1.out.below hb4)
  have R2_5 := hid (U2.out.below hb4)
  have R3_5 := hid (U3.out.below hb4)
  have Ru_5 := hid (Uu.out.below hb4)
  have Rv_5 := hid (Uv.out.below hb4)
  have Rk_5 := hid (Uk.out.below hb4)
  have HB_5 : Hid (Below w.heap.size w w4) := VBel.out.trans (hb4.mono VBel.out.size)
  clear ltA cA0 cA1 cA2 ltB cB0 cB1 cB2 ltR cR0 zR0 cR1 zR1 cR2 zR2 ltX cX0 zX0 cX1 zX1 cX2 zX2
  have ltA := XA_5.out.lt
  have cA0 := XA_5.out.cell 0 _ rfl
  have cA1 := XA_5.out.cell 1 _ rfl
  have cA2 := XA_5.out.cell 2 _ rfl
  have ltB := XB_5.out.lt
  have cB0 := XB_5.out.cell 0 _ rfl
  have cB1 := XB_5.out.cell 1 _ rfl
  have cB2 := XB_5.out.cell 2 _ rfl
  have ltR := XR_5.out.lt
  have cR0 := XR_5.out.cell 0 _ rfl
  have zR0 := XR_5.out.frozen 0
  have cR1 := XR_5.out.cell 1 _ rfl
  have zR1 := XR_5.out.frozen 1
  have cR2 := XR_5.out.cell 2 _ rfl
  have zR2 := XR_5.out.frozen 2
  have ltX := XX_5.out.lt
  have cX0 := XX_5.out.cell 0 _ rfl
  have zX0 := XX_5.out.frozen 0
  have cX1 := XX_5.out.cell 1 _ rfl
  have zX1 := XX_5.out.frozen 1
  have cX2 := XX_5.out.cell 2 _ rfl
  have zX2 := XX_5.out.frozen 2
  have RS := hid hr4
  clear hb4 hr4
  go_wp2
  have P1 := XX_5.out.set1 (.slice so sn sc)
  have P0 := XR_5.out.other ⟨w2.heap.size, 1, none⟩ (.slice so sn sc) (by show w2.heap.size ≠ _; omega)
  have Z := P0.put3 (.bool true) (.slice so sn sc) (.slice ko kn kc)
  have z0 := Z.cell 0 _ rfl
  have z1 := Z.cell 1 _ rfl
  have z2 := Z.cell 2 _ rfl
  unfold wput3 at z0 z1 z2
  have BB := below_put3 (HB_5.out.setCell (p := ⟨w2.heap.size, 1, none⟩) (by show w.heap.size ≤ w2.heap.size; omega) (.slice so sn sc)) (by omega : w.heap.size ≤ w.heap.size + 1 + 1) (.bool true) (.slice so sn sc) (.slice ko kn kc)
  refine bodyPost_ret (v := .agg #[.bool true, .slice so sn sc, .slice ko kn kc]) (by simp [results, Tryd.results54, go_sem, z0, z1, z2]) rfl ⟨_, true, p1 * q2 - p2 * q1, rfl, hsg.out, ?_, ⟨so, sn, sc, ko, kn, kc, rfl, ?_, ?_⟩, BB⟩
  · omega
  · exact (RS.out.other _ _ _ XX_5.out (by decide)).put3 P0 (by decide) _ _ _
  · exact (Rk_5.out.other _ _ _ XX_5.out (by decide)).put3 P0 (by decide) _ _ _

set_option maxHeartbeats 2000000 in
set_option maxRecDepth 20000 in
theorem psum_tf_lt (ao bo co eo : Option Addr) (n capa m capb p capc q capd : Nat) (p1 q1 p2 q2 : Nat) (w : World) (h1 : Row w ao n capa (limbs p1)) (h2 : Row w bo m capb (limbs q1)) (h3 : Row w co p capc (limbs p2)) (h4 : Row w eo q capd (limbs q2)) (b1 : n ≤ 1000) (b2 : m ≤ 1000) (b3 : p ≤ 1000) (b4 : q ≤ 1000) (hlt : Hid (p1 * q2 < p2 * q1)) (hle : Hid (p1 * q2 ≤ p2 * q1)) :
    Calls Tryd.prog 54 #[.agg #[.bool true, .slice ao n capa, .slice bo m capb], .agg #[.bool false, .slice co p capc, .slice eo q capd]] w fun e w' => ∃ v m z, e = .returned v ∧ sg m z = sg true (p1 * q2) + sg false (p2 * q1) ∧ z ≤ p1 * q2 + p2 * q1 ∧ PNv w' v m z (q1 * q2) ∧ Below w.heap.size w w' := by
  have hsg : Hid (sg false (p2 * q1 - p1 * q2) = sg true (p1 * q2) + sg false (p2 * q1)) := (sg_more _ _ _ _ (by decide) hle.out).symm
  have hc : Hid (cmp3 ((p1 * q2 : Nat) : Int) ((p2 * q1 : Nat) : Int) = -1) := by have := hlt.out; show _ = _; unfold cmp3; rw [if_pos (by omega)]
  obtain ⟨c1, c2, c3, c5⟩ := boxes3 w #[.bool true, .slice ao n capa, .slice bo m capb] #[.bool false, .slice co p capc, .slice eo q capd] #[.bool false, .slice none 0 0, .slice none 0 0] 82 82 82
  have R0_0 := hid (h1.below c5)
  have len0 := h1.len
  have R1_0 := hid (h2.below c5)
  have len1 := h2.len
  have R2_0 := hid (h3.below c5)
  have len2 := h3.len
  have R3_0 := hid (h4.below c5)
  have len3 := h4.len
  have XA_0 := hid c1
  have XB_0 := hid c2
  have XR_0 := hid c3
  have HB_0 := hid c5
  clear h1 h2 h3 h4 c1 c2 c3 c5
  go_enter Tryd.func54, Tryd.ntmps54
  go_wp2_with fail
  refine (ptimes_any ao eo n capa q capd p1 q2 _ R0_0.out R3_0.out (by omega) (by omega)).mono ?_
  rintro e0 w0 ⟨v0, rfl, ⟨uo, un, uc, rfl, hr0, _⟩, hb0⟩
  have XA_1 := hid (XA_0.out.keep hb0)
  have XB_1 := hid (XB_0.out.keep hb0)
  have XR_1 := hid (XR_0.out.keep hb0)
  have R0_1 := hid (R0_0.out.below hb0)
  have R1_1 := hid (R1_0.out.below hb0)
  have R2_1 := hid (R2_0.out.below hb0)
  have R3_1 := hid (R3_0.out.below hb0)
  have HB_1 : Hid (Below w.heap.size w w0) := HB_0.out.trans (hb0.mono HB_0.out.size)
  have ltA := XA_1.out.lt
  have cA0 := XA_1.out.cell 0 _ rfl
  have cA1 := XA_1.out.cell 1 _ rfl
  have cA2 := XA_1.out.cell 2 _ rfl
  have ltB := XB_1.out.lt
  have cB0 := XB_1.out.cell 0 _ rfl
  have cB1 := XB_1.out.cell 1 _ rfl
  have cB2 := XB_1.out.cell 2 _ rfl
  have ltR := XR_1.out.lt
  have cR0 := XR_1.out.cell 0 _ rfl
  have zR0 := XR_1.out.frozen 0
  have cR1 := XR_1.out.cell 1 _ rfl
  have zR1 := XR_1.out.frozen 1
  have cR2 := XR_1.out.cell 2 _ rfl
  have zR2 := XR_1.out.frozen 2
  have Ru_1 := hid hr0
  have lenu := hr0.len
  have bdu : un ≤ 2000 := by rw [← lenu]; exact Nat.le_trans (prod_len len0 len3) (by omega)
  clear hb0 hr0
  go_wp2_with fail
  refine (ptimes_any co bo p capc m capb p2 q1 _ R2_1.out R1_1.out (by omega) (by omega)).mono ?_
  rintro e1 w1 ⟨v1, rfl, ⟨vo, vn, vc, rfl, hr1, _⟩, hb1⟩
  have XA_2 := hid (XA_1.out.keep hb1)
  have XB_2 := hid (XB_1.out.keep hb1)
  have XR_2 := hid (XR_1.out.keep hb1)
  have R0_2 := hid (R0_1.out.below hb1)
  have R1_2 := hid (R1_1.out.below hb1)
  have R2_2 := hid (R2_1.out.below hb1)
  have R3_2 := hid (R3_1.out.below hb1)
  have Ru_2 := hid (Ru_1.out.below hb1)
  have HB_2 : Hid (Below w.heap.size w w1) := HB_1.out.trans (hb1.mono HB_1.out.size)
  clear ltA cA0 cA1 cA2 ltB cB0 cB1 cB2 ltR cR0 zR0 cR1 zR1 cR2 zR2
  have ltA := XA_2.out.lt
  have cA0 := XA_2.out.cell 0 _ rfl
  have cA1 := XA_2.out.cell 1 _ rfl
  have cA2 := XA_2.out.cell 2 _ rfl
  have ltB := XB_2.out.lt
  have cB0 := XB_2.out.cell 0 _ rfl
  have cB1 := XB_2.out.cell 1 _ rfl
  have cB2 := XB_2.out.cell 2 _ rfl
  have ltR := XR_2.out.lt
  have cR0 := XR_2.out.cell 0 _ rfl
  have zR0 := XR_2.out.frozen 0
  have cR1 := XR_2.out.cell 1 _ rfl
  have zR1 := XR_2.out.frozen 1
  have cR2 := XR_2.out.cell 2 _ rfl
  have zR2 := XR_2.out.frozen 2
  have Rv_2 := hid hr1
  have lenv := hr1.len
  have bdv : vn ≤ 2000 := by rw [← lenv]; exact Nat.le_trans (prod_len len2 len1) (by omega)
  clear hb1 hr1
  go_wp2_with fail
  refine (ptimes_any bo eo m capb q capd q1 q2 _ R1_2.out R3_2.out (by omega) (by omega)).mono ?_
  rintro e2 w2 ⟨v2, rfl, ⟨ko, kn, kc, rfl, hr2, _⟩, hb2⟩
  have XA_3 := hid (XA_2.out.keep hb2)
  have XB_3 := hid (XB_2.out.keep hb2)
  have XR_3 := hid (XR_2.out.keep hb2)
  have R0_3 := hid (R0_2.out.below hb2)
  have R1_3 := hid (R1_2.out.below hb2)
  have R2_3 := hid (R2_2.out.below hb2)
  have R3_3 := hid (R3_2.out.below hb2)
  have Ru_3 := hid (Ru_2.out.below hb2)
  have Rv_3 := hid (Rv_2.out.below hb2)
  have HB_3 : Hid (Below w.heap.size w w2) := HB_2.out.trans (hb2.mono HB_2.out.size)
  clear ltA cA0 cA1 cA2 ltB cB0 cB1 cB2 ltR cR0 zR0 cR1 zR1 cR2 zR2
  have ltA := XA_3.out.lt
  have cA0 := XA_3.out.cell 0 _ rfl
  have cA1 := XA_3.out.cell 1 _ rfl
  have cA2 := XA_3.out.cell 2 _ rfl
  have ltB := XB_3.out.lt
  have cB0 := XB_3.out.cell 0 _ rfl
  have cB1 := XB_3.out.cell 1 _ rfl
  have cB2 := XB_3.out.cell 2 _ rfl
  have ltR := XR_3.out.lt
  have cR0 := XR_3.out.cell 0 _ rfl
  have zR0 := XR_3.out.frozen 0
  have cR1 := XR_3.out.cell 1 _ rfl
  have zR1 := XR_3.out.frozen 1
  have cR2 := XR_3.out.cell 2 _ rfl
  have zR2 := XR_3.out.frozen 2
  have Rk_3 := hid hr2
  have lenk := hr2.len
  have bdk : kn ≤ 2000 := by rw [← lenk]; exact Nat.le_trans (prod_len len1 len3) (by omega)
  clear hb2 hr2
  have nA := XA_3.out.lt
  have nB := XB_3.out.lt
  have nR := XR_3.out.lt
  have YA_3 := hid (bx_past XA_3.out (.cells #[.bool false, .slice none 0 0, .slice ko kn kc] 82))
  have YB_3 := hid (bx_past XB_3.out (.cells #[.bool false, .slice none 0 0, .slice ko kn kc] 82))
  have YR_3 := hid (bx_past XR_3.out (.cells #[.bool false, .slice none 0 0, .slice ko kn kc] 82))
  have YX_3 := hid (bx_new w2 #[.bool false, .slice none 0 0, .slice ko kn kc] 82)
  have Q0_3 := hid (R0_3.out.alloc (.cells #[.bool false, .slice none 0 0, .slice ko kn kc] 82))
  have Q1_3 := hid (R1_3.out.alloc (.cells #[.bool false, .slice none 0 0, .slice ko kn kc] 82))
  have Q2_3 := hid (R2_3.out.alloc (.cells #[.bool false, .slice none 0 0, .slice ko kn kc] 82))
  have Q3_3 := hid (R3_3.out.alloc (.cells #[.bool false, .slice none 0 0, .slice ko kn kc] 82))
  have Qu_3 := hid (Ru_3.out.alloc (.cells #[.bool false, .slice none 0 0, .slice ko kn kc] 82))
  have Qv_3 := hid (Rv_3.out.alloc (.cells #[.bool false, .slice none 0 0, .slice ko kn kc] 82))
  have Qk_3 := hid (Rk_3.out.alloc (.cells #[.bool false, .slice none 0 0, .slice ko kn kc] 82))
  have HC_3 : Hid (Below w.heap.size w (w2.alloc (.cells #[.bool false, .slice none 0 0, .slice ko kn kc] 82))) := HB_3.out.alloc HB_3.out.size (.cells #[.bool false, .slice none 0 0, .slice ko kn kc] 82)
  go_wp2_with fail
  refine (pcmp_any uo vo un uc vn vc (p1 * q2) (p2 * q1) _ Qu_3.out Qv_3.out (by omega) (by omega)).mono ?_
  rintro e3 w3 ⟨rfl, hb3⟩
  have XA_4 := hid (YA_3.out.keep hb3)
  have XB_4 := hid (YB_3.out.keep hb3)
  have XR_4 := hid (YR_3.out.keep hb3)
  have XX_4 := hid (YX_3.out.keep hb3)
  have R0_4 := hid (Q0_3.out.below hb3)
  have R1_4 := hid (Q1_3.out.below hb3)
  have R2_4 := hid (Q2_3.out.below hb3)
  have R3_4 := hid (Q3_3.out.below hb3)
  have Ru_4 := hid (Qu_3.out.below hb3)
  have Rv_4 := hid (Qv_3.out.below hb3)
  have Rk_4 := hid (Qk_3.out.below hb3)
  have HB_4 : Hid (Below w.heap.size w w3) := HC_3.out.trans (hb3.mono HC_3.out.size)
  clear ltA cA0 cA1 cA2 ltB cB0 cB1 cB2 ltR cR0 zR0 cR1 zR1 cR2 zR2
  have ltA := XA_4.out.lt
  have cA0 := XA_4.out.cell 0 _ rfl
  have cA1 := XA_4.out.cell 1 _ rfl
  have cA2 := XA_4.out.cell 2 _ rfl
  have ltB := XB_4.out.lt
  have cB0 := XB_4.out.cell 0 _ rfl
  have cB1 := XB_4.out.cell 1 _ rfl
  have cB2 := XB_4.out.cell 2 _ rfl
  have ltR := XR_4.out.lt
  have cR0 := XR_4.out.cell 0 _ rfl
  have zR0 := XR_4.out.frozen 0
  have cR1 := XR_4.out.cell 1 _ rfl
  have zR1 := XR_4.out.frozen 1
  have cR2 := XR_4.out.cell 2 _ rfl
  have zR2 := XR_4.out.frozen 2
  have ltX := XX_4.out.lt
  have cX0 := XX_4.out.cell 0 _ rfl
  have zX0 := XX_4.out.frozen 0
  have cX1 := XX_4.out.cell 1 _ rfl
  have zX1 := XX_4.out.frozen 1
  have cX2 := XX_4.out.cell 2 _ rfl
  have zX2 := XX_4.out.frozen 2
  clear hb3
  rw [hc.out]
  go_wp2_with fail
  obtain ⟨V, hV⟩ : ∃ V, V = w3.setCell ⟨w2.heap.size, 0, none⟩ (.bool false) := ⟨_, rfl⟩
  rw [← hV]
  have VA := hid (XA_4.out.other ⟨w2.heap.size, 0, none⟩ (.bool false) (by show w2.heap.size ≠ _; omega))
  have VB := hid (XB_4.out.other ⟨w2.heap.size, 0, none⟩ (.bool false) (by show w2.heap.size ≠ _; omega))
  have VR := hid (XR_4.out.other ⟨w2.heap.size, 0, none⟩ (.bool false) (by show w2.heap.size ≠ _; omega))
  have VX := hid (XX_4.out.set0 (.bool false))
  have U0 := hid (R0_4.out.other w2.heap.size 0 (.bool false) XX_4.out (by decide))
  have U1 := hid (R1_4.out.other w2.heap.size 0 (.bool false) XX_4.out (by decide))
  have U2 := hid (R2_4.out.other w2.heap.size 0 (.bool false) XX_4.out (by decide))
  have U3 := hid (R3_4.out.other w2.heap.size 0 (.bool false) XX_4.out (by decide))
  have Uu := hid (Ru_4.out.other w2.heap.size 0 (.bool false) XX_4.out (by decide))
  have Uv := hid (Rv_4.out.other w2.heap.size 0 (.bool false) XX_4.out (by decide))
  have Uk := hid (Rk_4.out.other w2.heap.size 0 (.bool false) XX_4.out (by decide))
  have VBel := hid (HB_4.out.setCell (p := ⟨w2.heap.size, 0, none⟩) (by show w.heap.size ≤ w2.heap.size; omega) (.bool false))
  rw [← hV] at VBel VA VB VR VX U0 U1 U2 U3 Uu Uv Uk
  clear hV
  refine (pless_any vo uo vn vc un uc (p2 * q1) (p1 * q2) _ Uv.out Uu.out (by omega) (by omega) hle.out).mono ?_
  rintro e4 w4 ⟨v4, rfl, ⟨so, sn, sc, rfl, hr4, _⟩, hb4⟩
  have XA_5 := hid (VA.out.keep hb4)
  have XB_5 := hid (VB.out.keep hb4)
  have XR_5 := hid (VR.out.keep hb4)
  have XX_5 := hid (VX.out.keep hb4)
  have R0_5 := hid (U0.out.below hb4)
  have R1_5 := hid (U1.out.below hb4)
  have R2_5 := hid (U2.out.below hb4)
  have R3_5 := hid (U3.out.below hb4)
  have Ru_5 := hid (Uu.out.below hb4)
  have Rv_5 := hid (Uv.out.below hb4)
  have Rk_5 := hid (Uk.out.below hb4)
  have HB_5 : Hid (Below w.heap.size w w4) := VBel.out.trans (hb4.mono VBel.out.size)
  clear ltA cA0 cA1 cA2 ltB cB0 cB1 cB2 ltR cR0 zR0 cR1 zR1 cR2 zR2 ltX cX0 zX0 cX1 zX1 cX2 zX2
  have ltA := XA_5.out.lt
  have cA0 := XA_5.out.cell 0 _ rfl
  have cA1 := XA_5.out.cell 1 _ rfl
  have cA2 := XA_5.out.cell 2 _ rfl
  have ltB := XB_5.out.lt
  have cB0 := XB_5.out.cell 0 _ rfl
  have cB1 := XB_5.out.cell 1 _ rfl
  have cB2 := XB_5.out.cell 2 _ rfl
  have ltR := XR_5.out.lt
  have cR0 := XR_5.out.cell 0 _ rfl
  have zR0 := XR_5.out.frozen 0
  have cR1 := XR_5.out.cell 1 _ rfl
  have zR1 := XR_5.out.frozen 1
  have cR2 := XR_5.out.cell 2 _ rfl
  have zR2 := XR_5.out.frozen 2
  have ltX := XX_5.out.lt
  have cX0 := XX_5.out.cell 0 _ rfl
  have zX0 := XX_5.out.frozen 0
  have cX1 := XX_5.out.cell 1 _ rfl
  have zX1 := XX_5.out.frozen 1
  have cX2 := XX_5.out.cell 2 _ rfl
  have zX2 := XX_5.out.frozen 2
  have RS := hid hr4
  clear hb4 hr4
  go_wp2
  have P1 := XX_5.out.set1 (.slice so sn sc)
  have P0 := XR_5.out.other ⟨w2.heap.size, 1, none⟩ (.slice so sn sc) (by show w2.heap.size ≠ _; omega)
  have Z := P0.put3 (.bool false) (.slice so sn sc) (.slice ko kn kc)
  have z0 := Z.cell 0 _ rfl
  have z1 := Z.cell 1 _ rfl
  have z2 := Z.cell 2 _ rfl
  unfold wput3 at z0 z1 z2
  have BB := below_put3 (HB_5.out.setCell (p := ⟨w2.heap.size, 1, none⟩) (by show w.heap.size ≤ w2.heap.size; omega) (.slice so sn sc)) (by omega : w.heap.size ≤ w.heap.size + 1 + 1) (.bool false) (.slice so sn sc) (.slice ko kn kc)
  refine bodyPost_ret (v := .agg #[.bool false, .slice so sn sc, .slice ko kn kc]) (by simp [results, Tryd.results54, go_sem, z0, z1, z2]) rfl ⟨_, false, p2 * q1 - p1 * q2, rfl, hsg.out, ?_, ⟨so, sn, sc, ko, kn, kc, rfl, ?_, ?_⟩, BB⟩
  · omega
  · exact (RS.out.other _ _ _ XX_5.out (by decide)).put3 P0 (by decide) _ _ _
  · exact (Rk_5.out.other _ _ _ XX_5.out (by decide)).put3 P0 (by decide) _ _ _

theorem psum_any (ma mb : Bool) (ao bo co eo : Option Addr) (n capa m capb p capc q capd : Nat) (p1 q1 p2 q2 : Nat) (w : World) (h1 : Row w ao n capa (limbs p1)) (h2 : Row w bo m capb (limbs q1)) (h3 : Row w co p capc (limbs p2)) (h4 : Row w eo q capd (limbs q2)) (b1 : n ≤ 1000) (b2 : m ≤ 1000) (b3 : p ≤ 1000) (b4 : q ≤ 1000) :
    Calls Tryd.prog 54 #[.agg #[.bool ma, .slice ao n capa, .slice bo m capb], .agg #[.bool mb, .slice co p capc, .slice eo q capd]] w fun e w' => ∃ v m z, e = .returned v ∧ sg m z = sg ma (p1 * q2) + sg mb (p2 * q1) ∧ z ≤ p1 * q2 + p2 * q1 ∧ PNv w' v m z (q1 * q2) ∧ Below w.heap.size w w' := by
  cases ma <;> cases mb
  · exact psum_ff_same ao bo co eo n capa m capb p capc q capd p1 q1 p2 q2 w h1 h2 h3 h4 b1 b2 b3 b4
  · by_cases h : p1 * q2 < p2 * q1
    · exact psum_ft_lt ao bo co eo n capa m capb p capc q capd p1 q1 p2 q2 w h1 h2 h3 h4 b1 b2 b3 b4 h (Nat.le_of_lt h)
    · exact psum_ft_ge ao bo co eo n capa m capb p capc q capd p1 q1 p2 q2 w h1 h2 h3 h4 b1 b2 b3 b4 (Nat.le_of_not_lt h)
  · by_cases h : p1 * q2 < p2 * q1
    · exact psum_tf_lt ao bo co eo n capa m capb p capc q capd p1 q1 p2 q2 w h1 h2 h3 h4 b1 b2 b3 b4 h (Nat.le_of_lt h)
    · exact psum_tf_ge ao bo co eo n capa m capb p capc q capd p1 q1 p2 q2 w h1 h2 h3 h4 b1 b2 b3 b4 (Nat.le_of_not_lt h)
  · exact psum_tt_same ao bo co eo n capa m capb p capc q capd p1 q1 p2 q2 w h1 h2 h3 h4 b1 b2 b3 b4
end Go.Proofs.YtddbflggcblfcaaDoor
